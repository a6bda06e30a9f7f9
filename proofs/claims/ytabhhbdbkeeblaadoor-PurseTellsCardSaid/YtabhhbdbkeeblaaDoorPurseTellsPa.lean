/- Part of a proof. -/
import Derived.Test.YtabhhbdbkeeblaaDoorZp
import Derived.Laws.BitsAllLaws
import Derived.WalkKit
import Derived.ProofKit
import Derived.Handy
import Derived.Deep.RegionHeld
import Derived.Maps.AppendAt
import Derived.Laws.BytesArg
import Derived.OpenShut
import Derived.ChangeKeysEq
import Derived.Lib.SlBytesConst
import Derived.Deep.MidRow
import Derived.Laws.CopyOwn
import Derived.Laws.MakeOwn
import Derived.Deep.WholeRow
import Derived.Deep.Cut
import Derived.Deep.QuietTactic
import Derived.BigQuiet
import Derived.StillTailTactics
import Derived.Lib.Hide
import Derived.Deep.RegionHeld3
import Derived.Deep.RegionLaw
import Derived.Laws.OwnMore
namespace Go.Proofs.YtabhhbdbkeeblaaDoor
set_option maxRecDepth 8000
open Go
theorem InW.bits (op : BinOp) (x y : Int) : InW (bits op .u32 x y) := by
  unfold Go.bits
  rw [IntKind.wrap_u32]
  exact InW.mod _
theorem InW.nat {x : Int} (h : InW x) : ∃ a : Nat, x = (a : Int) ∧ a < 4294967296 := ⟨x.toNat, by have := h.1; omega, by have := h.2; omega⟩
theorem rot_eq (x : Int) (n : Nat) (h1 : 1 ≤ n) (h2 : n ≤ 31) (hx : InW x) : (x / 2 ^ n + x * 2 ^ (32 - n)) % 4294967296 = rotI x n := by
  obtain ⟨a, rfl, ha⟩ := hx.nat
  unfold rotI
  have e1 : ((n : Int)).toNat = n := by omega
  have e2 : (32 - (n : Int)).toNat = 32 - n := by omega
  rw [e1, e2]
  have hp : 2 ^ (32 - n) * 2 ^ n = 4294967296 := by rw [← Nat.pow_add, show 32 - n + n = 32 by omega]
  have hpos : 0 < 2 ^ n := Nat.two_pow_pos n
  have hpos' : 0 < 2 ^ (32 - n) := Nat.two_pow_pos _
  have hlt : a / 2 ^ n < 2 ^ (32 - n) := by
    rw [Nat.div_lt_iff_lt_mul hpos, hp]
    exact ha
  have hmod : a * 2 ^ (32 - n) % 4294967296 = (a % 2 ^ n) <<< (32 - n) := by
    rw [Nat.shiftLeft_eq, ← hp, Nat.mul_comm a, Nat.mul_mod_mul_left, Nat.mul_comm]
  have hbig : (a % 2 ^ n) <<< (32 - n) + a / 2 ^ n < 4294967296 := by
    rw [Nat.shiftLeft_eq]
    have hm : a % 2 ^ n + 1 ≤ 2 ^ n := Nat.mod_lt _ hpos
    calc a % 2 ^ n * 2 ^ (32 - n) + a / 2 ^ n < a % 2 ^ n * 2 ^ (32 - n) + 2 ^ (32 - n) := by omega
      _ = (a % 2 ^ n + 1) * 2 ^ (32 - n) := by rw [Nat.add_mul, Nat.one_mul]
      _ ≤ 2 ^ n * 2 ^ (32 - n) := Nat.mul_le_mul_right _ hm
      _ = 4294967296 := by rw [Nat.mul_comm, hp]
  have c1 : ((a : Int) / 2 ^ n) = ((a / 2 ^ n : Nat) : Int) := by simp
  have c2 : ((a : Int) * 2 ^ (32 - n)) = ((a * 2 ^ (32 - n) : Nat) : Int) := by simp
  have c3 : ((a * 2 ^ (32 - n) : Nat) : Int) % 4294967296 = (((a % 2 ^ n) <<< (32 - n) : Nat) : Int) := by
    rw [← hmod]; simp
  rw [c1, c2, c3, u32_or_nat _ _ (by omega) (by omega), Nat.or_comm, ← Nat.shiftLeft_add_eq_or_of_lt hlt]
  clear c1 c2 c3 hlt hpos hpos' hp e1 e2
  generalize a * 2 ^ (32 - n) = M at *
  generalize (a % 2 ^ n) <<< (32 - n) = R at *
  generalize a / 2 ^ n = Q at *
  omega
theorem not_eq (x : Int) (hx : InW x) : bits BinOp.xor IntKind.u32 IntKind.u32.max x = 4294967295 - x := by
  obtain ⟨a, rfl, ha⟩ := hx.nat
  have hm : IntKind.u32.max = ((4294967295 : Nat) : Int) := by decide
  rw [hm, u32_xor_nat _ _ (by omega) ha]
  have h : 4294967295 ^^^ a = 4294967295 - a := by
    have h2 : (4294967295 : Nat) = 2 ^ 32 - 1 := by decide
    apply Nat.eq_of_testBit_eq
    intro i
    rw [Nat.testBit_xor, h2, Nat.testBit_two_pow_sub_one, show 2 ^ 32 - 1 - a = 2 ^ 32 - (a + 1) by omega, Nat.testBit_two_pow_sub_succ (by omega)]
    by_cases hi : i < 32
    · simp [hi]
    · have : a.testBit i = false := Nat.testBit_lt_two_pow (Nat.lt_of_lt_of_le ha (by rw [show (4294967296 : Nat) = 2 ^ 32 by decide]; exact Nat.pow_le_pow_right (by omega) (by omega)))
      simp [hi, this]
  rw [h]
  omega
theorem ch_eq (e f g : Int) (he : InW e) : bits BinOp.xor IntKind.u32 (bits BinOp.and IntKind.u32 e f) (bits BinOp.and IntKind.u32 (4294967295 - e) g) = chI e f g := by
  unfold chI
  rw [not_eq e he]
theorem maj_eq (a b c : Int) (ha : InW a) (hb : InW b) (hc : InW c) : bits BinOp.or IntKind.u32 (bits BinOp.or IntKind.u32 (bits BinOp.and IntKind.u32 a b) (bits BinOp.and IntKind.u32 a c)) (bits BinOp.and IntKind.u32 b c) = majI a b c := by
  obtain ⟨x, rfl, hx⟩ := ha.nat
  obtain ⟨y, rfl, hy⟩ := hb.nat
  obtain ⟨z, rfl, hz⟩ := hc.nat
  have l1 : x &&& y < 4294967296 := Nat.lt_of_le_of_lt Nat.and_le_left hx
  have l2 : x &&& z < 4294967296 := Nat.lt_of_le_of_lt Nat.and_le_left hx
  have l3 : y &&& z < 4294967296 := Nat.lt_of_le_of_lt Nat.and_le_left hy
  have l4 : (x &&& y) ||| (x &&& z) < 2 ^ 32 := Nat.or_lt_two_pow l1 l2
  have l5 : (x &&& y) ^^^ (x &&& z) < 2 ^ 32 := Nat.xor_lt_two_pow l1 l2
  unfold majI
  rw [u32_and_nat x y hx hy, u32_and_nat x z hx hz, u32_and_nat y z hy hz, u32_or_nat _ _ l1 l2, u32_or_nat _ _ l4 l3, u32_xor_nat _ _ l1 l2, u32_xor_nat _ _ l5 l3]
  congr 1
  apply Nat.eq_of_testBit_eq
  intro i
  simp only [Nat.testBit_or, Nat.testBit_and, Nat.testBit_xor]
  cases x.testBit i <;> cases y.testBit i <;> cases z.testBit i <;> rfl
theorem mul_two (a b : Nat) : (a * 256 + b) * 65536 = a * 16777216 + b * 65536 := by omega
theorem mul_three (a b c : Nat) : (a * 65536 + b * 256 + c) * 256 = a * 16777216 + b * 65536 + c * 256 := by omega
theorem word_eq (a b c d : Int) (ha : 0 ≤ a ∧ a ≤ 255) (hb : 0 ≤ b ∧ b ≤ 255) (hc : 0 ≤ c ∧ c ≤ 255) (hd : 0 ≤ d ∧ d ≤ 255) : 16777216 * a + 65536 * b + 256 * c + d = wordI a b c d := by
  obtain ⟨a, rfl⟩ := Int.eq_ofNat_of_zero_le ha.1
  obtain ⟨b, rfl⟩ := Int.eq_ofNat_of_zero_le hb.1
  obtain ⟨c, rfl⟩ := Int.eq_ofNat_of_zero_le hc.1
  obtain ⟨d, rfl⟩ := Int.eq_ofNat_of_zero_le hd.1
  have ha' : a ≤ 255 := by omega
  have hb' : b ≤ 255 := by omega
  have hc' : c ≤ 255 := by omega
  have hd' : d ≤ 255 := by omega
  unfold wordI
  have c1 : ((a : Int) * 16777216) = ((a * 16777216 : Nat) : Int) := by simp
  have c2 : ((b : Int) * 65536) = ((b * 65536 : Nat) : Int) := by simp
  have c3 : ((c : Int) * 256) = ((c * 256 : Nat) : Int) := by simp
  have o1 : a * 16777216 ||| b * 65536 = a * 16777216 + b * 65536 := by
    have h := Nat.shiftLeft_add_eq_or_of_lt (a := a) (b := b * 65536) (i := 24) (by omega)
    rw [Nat.shiftLeft_eq] at h
    exact h.symm
  have o2 : a * 16777216 + b * 65536 ||| c * 256 = a * 16777216 + b * 65536 + c * 256 := by
    have h := Nat.shiftLeft_add_eq_or_of_lt (a := a * 256 + b) (b := c * 256) (i := 16) (by omega)
    rw [Nat.shiftLeft_eq] at h
    rw [show (2 : Nat) ^ 16 = 65536 from rfl, mul_two] at h
    exact h.symm
  have o3 : a * 16777216 + b * 65536 + c * 256 ||| d = a * 16777216 + b * 65536 + c * 256 + d := by
    have h := Nat.shiftLeft_add_eq_or_of_lt (a := a * 65536 + b * 256 + c) (b := d) (i := 8) (by omega)
    rw [Nat.shiftLeft_eq] at h
    rw [show (2 : Nat) ^ 8 = 256 from rfl, mul_three] at h
    exact h.symm
  rw [c1, c2, c3, u32_or_nat _ _ (by omega) (by omega), o1, u32_or_nat _ _ (by omega) (by omega), o2, u32_or_nat _ _ (by omega) (by omega), o3]
  omega
theorem InW.word (a b c d : Int) : InW (wordI a b c d) := InW.bits _ _ _
open Go.RowKit
theorem pow_nat (k : Nat) : (2 : Int) * ((2 : Int) ^ k % 4294967296) % 4294967296 = (2 : Int) ^ (k + 1) % 4294967296 := by
  rw [Int.pow_succ]
  generalize (2 : Int) ^ k = y
  omega
set_option maxRecDepth 20000 in
set_option maxHeartbeats 1000000 in
theorem pow_any (n : Nat) (w : World) (h : n ≤ 32) : Calls Tryd.prog 86 #[.int .i64 (n : Int)] w fun e w' => e = .returned (.int .u32 ((2 : Int) ^ n % 4294967296)) ∧ w' = w := by
  go_enter Tryd.func86, Tryd.ntmps86
  go_wp2
  go_loop [3, 4] (fun t i => ∃ k : Nat, k ≤ n ∧ i = .int .i64 k ∧ t = .int .u32 ((2 : Int) ^ k % 4294967296)) (fun _ i => n - (intOf i).toNat)
  case atStart => exact ⟨0, by omega, rfl, by simp⟩
  case round =>
    obtain ⟨k, hk, rfl, rfl⟩ := hrel
    have hp := Lib.hid (pow_nat k)
    have r := InW.mod ((2 : Int) ^ k)
    generalize hY : (2 : Int) ^ k % 4294967296 = y at *
    have HY := Lib.hid hY
    clear hY
    obtain ⟨r0, r1⟩ := r
    by_cases hlt : k < n
    · go_wp2
      go_round
      case rel => exact ⟨k + 1, by omega, by go_num, by rw [← hp.out]⟩
      case measure => simp [intOf]; omega
    · obtain rfl : k = n := by omega
      go_wp2
      go_ret
      exact ⟨by rw [HY.out]; rfl, rfl⟩
set_option maxRecDepth 20000 in
set_option maxHeartbeats 1000000 in
theorem rturn_any (x : Int) (n : Nat) (w : World) (h1 : 1 ≤ n) (h2 : n ≤ 31) (hx : InW x) :
    Calls Tryd.prog 83 #[.int .u32 x, .int .i64 (n : Int)] w fun e w' => e = .returned (.int .u32 (rotI x n)) ∧ ∃ q, w' = w.drewN q := by
  have hr := rot_eq x n h1 h2 hx
  obtain ⟨x0, x1⟩ := hx
  have q1 : (2 : Int) ^ n % 4294967296 = 2 ^ n := by
    have h : (2 : Nat) ^ n < 2 ^ 32 := Nat.pow_lt_pow_right (by omega) (by omega)
    have h' : ((2 ^ n : Nat) : Int) < 4294967296 := by have e : (2 : Nat) ^ 32 = 4294967296 := rfl; omega
    have e : ((2 ^ n : Nat) : Int) = (2 : Int) ^ n := by simp
    rw [← e]
    exact Int.emod_eq_of_lt (Int.natCast_nonneg _) h'
  have q2 : (2 : Int) ^ (32 - n) % 4294967296 = 2 ^ (32 - n) := by
    have h : (2 : Nat) ^ (32 - n) < 2 ^ 32 := Nat.pow_lt_pow_right (by omega) (by omega)
    have h' : ((2 ^ (32 - n) : Nat) : Int) < 4294967296 := by have e : (2 : Nat) ^ 32 = 4294967296 := rfl; omega
    have e : ((2 ^ (32 - n) : Nat) : Int) = (2 : Int) ^ (32 - n) := by simp
    rw [← e]
    exact Int.emod_eq_of_lt (Int.natCast_nonneg _) h'
  have p0 : 0 < (2 : Int) ^ n := by
    have h : 0 < (2 : Nat) ^ n := Nat.two_pow_pos n
    have e : ((2 ^ n : Nat) : Int) = (2 : Int) ^ n := by simp
    omega
  have c1 := fun u : World => pow_any n u (by omega)
  have c2 := fun u : World => pow_any (32 - n) u (by omega)
  rw [q1] at c1
  rw [q2] at c2
  generalize (2 : Int) ^ n = p1 at *
  generalize (2 : Int) ^ (32 - n) = p2 at *
  have C1 := Lib.hid c1
  have C2 := Lib.hid c2
  have HR := Lib.hid hr
  have r1 : InW (x / p1) := ⟨Int.ediv_nonneg x0 (by omega), Int.lt_of_le_of_lt (Int.ediv_le_self p1 x0) x1⟩
  obtain ⟨r10, r11⟩ := r1
  clear c1 c2 hr q1 q2
  have s1 : IntKind.i64.wrap (32 - (n : Int)) = ((32 - n : Nat) : Int) := by rw [IntWalk.i64_in _ (by omega)]; omega
  have s2 : (p1 == 0) = false := by simp; omega
  have s3 : ¬ p1 = 0 := by omega
  have s4 : x.tdiv p1 = x / p1 := Int.tdiv_eq_ediv_of_nonneg x0
  have s5 : IntKind.u32.wrap (x / p1) = x / p1 := by rw [IntKind.wrap_u32]; omega
  go_enter Tryd.func83, Tryd.ntmps83
  go_wp2_with fail
  go_quiet ((go_at_call 86; first | (with_reducible exact Calls.quiet_of_same (C1.out _)) | (with_reducible exact Calls.quiet_of_same (C2.out _))))
  have e : (x / p1 + x * p2 % 4294967296) % 4294967296 = rotI x n := by
    rw [← HR.out]
    generalize x / p1 = A
    generalize x * p2 = B
    omega
  have E := Lib.hid e
  clear e s1 s2 s3 s4 s5
  go_wp2
  go_ret
  exact ⟨by show Ending.returned (.int .u32 ((x / p1 + x * p2 % 4294967296) % 4294967296)) = _; rw [E.out], nq, rfl⟩
theorem firstL_in (xs : List Int) : ∀ k, ∀ x ∈ firstL xs k, InW x
  | 0, x, hx => by simp [firstL] at hx
  | k + 1, x, hx => by
    simp only [firstL, List.mem_append, List.mem_singleton] at hx
    rcases hx with hx | rfl
    · exact firstL_in xs k x hx
    · exact InW.word _ _ _ _
theorem moreL_in (xs : List Int) : ∀ k, ∀ x ∈ moreL xs k, InW x
  | 0, x, hx => firstL_in xs 16 x hx
  | k + 1, x, hx => by
    simp only [moreL, List.mem_append, List.mem_singleton] at hx
    rcases hx with hx | rfl
    · exact moreL_in xs k x hx
    · exact InW.mod _
theorem info39 : (Tryd.prog.info? 87).map (fun i => (i.zero, i.size, i.bytes)) = some (some (.int .u32 0), 1, 4) := by kernel_rfl
theorem append_words (base : Nat) (v : Value) (n : Nat) (l : List Value) (w : World) (hown : w.ownsRow base 87 1 v n l) (ad : Addr) (m c : Nat) (ys : List Int) (hl : ys.length = m)
    (hy : ∀ j u, (ys.map u32v)[j]? = some u → w.cell? (ad.add j) = some u) (hs : n + m ≤ 1000) (hbase : base ≤ w.heap.size) :
    ∃ v' w', (Builtin.append_ #[94, 94] 94 #[v, .slice (some ad) m c]).run Tryd.prog w = .ok v' w' ∧ w'.ownsRow base 87 1 v' (n + m) (l ++ ys.map u32v) ∧ w.grownBy w' v.ownBlock := by
  cases hq : Tryd.prog.info? 87 with
  | none => have := info39; rw [hq] at this; cases this
  | some i =>
    have h := info39
    rw [hq] at h
    simp only [Option.map_some, Option.some.injEq, Prod.mk.injEq] at h
    obtain ⟨h1, h2, h3⟩ := h
    obtain ⟨v', w', hrun, hown', hg, _⟩ := run_append_own_at (P := Tryd.prog) w base 94 94 87 i _ 1 4 Tryd.underlying94 hq h1 h2 h3 rfl (by omega) v n l hown ad m c (ys.map u32v) (by simp [hl]) hy (by intro u hu; obtain ⟨z, _, rfl⟩ := List.mem_map.1 hu; rfl) (by unfold maxLen; omega) (by omega) hbase
    exact ⟨v', w', hrun, hown', hg⟩
theorem append_word (base : Nat) (v : Value) (n : Nat) (l : List Value) (w : World) (x : Int) (hown : w.ownsRow base 87 1 v n l) (hs : n ≤ 900) (hbase : base ≤ w.heap.size) :
    ∃ v' w', (Builtin.append_ #[94, 94] 94 #[v, .slice (some ⟨w.heap.size, 0, none⟩) 1 1]).run Tryd.prog (w.alloc (.cells #[.int .u32 x] 87)) = .ok v' w' ∧ w'.ownsRow base 87 1 v' (n + 1) (l ++ [u32v x]) ∧ Below base w w' := by
  have ho := hown.alloc (.cells #[.int .u32 x] 87)
  obtain ⟨v', w', hrun, hown', hg⟩ := append_words base v n l (w.alloc (.cells #[.int .u32 x] 87)) ho ⟨w.heap.size, 0, none⟩ 1 1 [x] rfl (fun j u hu => by
    rcases j with _ | j
    · have hu' : u32v x = u := by simpa using hu
      subst hu'
      exact (Row.new w 87 #[.int .u32 x]).cell 0
    · simp at hu) (by omega) (by simp; omega)
  refine ⟨v', w', hrun, hown', ?_⟩
  have hb : Below base w (w.alloc (.cells #[.int .u32 x] 87)) := (Below.refl _ _).alloc hbase _
  exact hb.trans (below_of_grown hg (fun g hg => (ho.lt g hg).1) (by simp; omega))
theorem step_append_run {P : Program} {ops : Array Oper} {o : Oper} {a : Act} {w w' : World} {K : Act → World → Prop} {Q : Exit → Act → World → Prop} {v y v' : Value} {t : TypeId} (hgd : o.guard = none) (s x : Operand)
    (ho : o.op = .call { callee := .builtin .append, args := #[s, x], argTypes := #[t, t] }) (hty : o.type = t) (hs : a.eval s = v) (hx : a.eval x = y)
    (hrun : (Builtin.append_ #[t, t] t #[v, y]).run P w = .ok v' w') (h : K (a.put o.dst v') w') : if Region.wanted o (yielded ops a.tmps) = true then Oper.wp P o a w K Q else K (a.put o.dst undef) w := by
  rw [if_pos (by simp only [Region.wanted, hgd])]
  unfold Oper.wp execOp
  simp only [ho, hty, resolve, invoke, builtin, Sem.run_bind, Sem.run_pure, Result.andThen_ok, List.map_toArray, List.map_cons, List.map_nil, hs, hx, hrun]
  exact h
theorem step_append_word {ops : Array Oper} {o : Oper} {a : Act} {w0 : World} {x : Int} {K : Act → World → Prop} {Q : Exit → Act → World → Prop} {v : Value} {base n : Nat} {l : List Value} (hgd : o.guard = none) (s y : Operand)
    (ho : o.op = .call { callee := .builtin .append, args := #[s, y], argTypes := #[94, 94] }) (hty : o.type = 94) (hs : a.eval s = v) (hy : a.eval y = .slice (some ⟨w0.heap.size, 0, none⟩) 1 1)
    (hown : w0.ownsRow base 87 1 v n l) (hn : n ≤ 900) (hbase : base ≤ w0.heap.size)
    (h : ∀ v' w', w'.ownsRow base 87 1 v' (n + 1) (l ++ [u32v x]) → Below base w0 w' → K (a.put o.dst v') w') :
    if Region.wanted o (yielded ops a.tmps) = true then Oper.wp Tryd.prog o a (w0.alloc (.cells #[.int .u32 x] 87)).drew K Q else K (a.put o.dst undef) (w0.alloc (.cells #[.int .u32 x] 87)).drew := by
  obtain ⟨v', w', hrun, hown', hb2⟩ := append_word base v n l w0.drew x hown hn hbase
  have hrun' : (Builtin.append_ #[94, 94] 94 #[v, .slice (some ⟨w0.heap.size, 0, none⟩) 1 1]).run Tryd.prog (w0.alloc (.cells #[.int .u32 x] 87)).drew = .ok v' w' := hrun
  exact step_append_run hgd s y ho hty hs hy hrun' (h v' w' hown' ((Below.refl _ _).drew.trans hb2))
theorem turn_at (x : Int) (hx : InW x) (n : Nat) (h1 : 1 ≤ n) (h2 : n ≤ 31) (m : Int) (hm : m = (n : Int)) (u : World) (q : Nat) :
    Calls Tryd.prog 83 #[.int .u32 x, .int .i64 m] (u.drewN q) fun e w' => e = .returned (.int .u32 (rotI x m)) ∧ ∃ r, w' = u.drewN r := by
  subst hm
  exact Calls.quiet_of (rturn_any x n _ h1 h2 hx)
theorem own_cell {base n g cap : Nat} {l : List Int} {w : World} (h : w.ownsRow base 87 1 (.slice (some ⟨g, 0, none⟩) n cap) n (l.map u32v)) (i : Nat) (hi : i < n) : w.cell? ⟨g, i, none⟩ = some (.int .u32 (l.getD i 0)) := by
  have hl : l.length = n := by have := h.1; simpa using this
  have := h.cells (g := g) rfl i (u32v (l.getD i 0)) (by simp [List.getD, List.getElem?_eq_getElem (by omega : i < l.length)])
  rw [Addr.add_mid, Nat.zero_add] at this
  exact this
set_option maxHeartbeats 4000000 in
set_option maxRecDepth 100000 in
theorem rwords_any (b o n c : Nat) (xs : List Int) (w : World) (hn : 64 ≤ n) (hb : b < w.heap.size)
    (hx : ∀ i, i < 64 → w.cell? ⟨b, o + i, none⟩ = some (.int .u8 (xs.getD i 0))) (hr : ∀ i, 0 ≤ xs.getD i 0 ∧ xs.getD i 0 ≤ 255) :
    Calls Tryd.prog 76 #[.slice (some ⟨b, o, none⟩) n c] w fun e w' => ∃ v, e = .returned v ∧ w'.ownsRow w.heap.size 87 1 v 64 ((moreL xs 48).map u32v) ∧ Below w.heap.size w w' := by
  have HX := Lib.hid hx
  have HR := Lib.hid hr
  clear hx hr
  go_enter Tryd.func76, Tryd.ntmps76
  go_wp2
  go_loopw [3, 4] (fun v i u => ∃ k : Nat, k ≤ 16 ∧ i = .int .i64 k ∧ Below w.heap.size w u ∧ Hid (u.ownsRow w.heap.size 87 1 v k ((firstL xs k).map u32v))) (fun _ i _ => 16 - (intOf i).toNat)
  case atStart => exact ⟨0, by omega, rfl, Below.refl _ _, World.ownsRow_nil _ _ _ _⟩
  case round =>
    obtain ⟨k, hk, rfl, hbl, hown⟩ := hrel
    by_cases hlt : k < 16
    · have g0 := (hbl.cell (p := ⟨b, o + 4 * k, none⟩) hb).trans (HX.out (4 * k) (by omega))
      have g1 := (hbl.cell (p := ⟨b, o + (4 * k + 1), none⟩) hb).trans (HX.out (4 * k + 1) (by omega))
      have g2 := (hbl.cell (p := ⟨b, o + (4 * k + 2), none⟩) hb).trans (HX.out (4 * k + 2) (by omega))
      have g3 := (hbl.cell (p := ⟨b, o + (4 * k + 3), none⟩) hb).trans (HX.out (4 * k + 3) (by omega))
      have r0 := HR.out (4 * k)
      have r1 := HR.out (4 * k + 1)
      have r2 := HR.out (4 * k + 2)
      have r3 := HR.out (4 * k + 3)
      have hw : Hid (wordAt xs k = 16777216 * xs.getD (4 * k) 0 + 65536 * xs.getD (4 * k + 1) 0 + 256 * xs.getD (4 * k + 2) 0 + xs.getD (4 * k + 3) 0) := (word_eq _ _ _ _ r0 r1 r2 r3).symm
      generalize xs.getD (4 * k) 0 = x0 at *
      generalize xs.getD (4 * k + 1) 0 = x1 at *
      generalize xs.getD (4 * k + 2) 0 = x2 at *
      generalize xs.getD (4 * k + 3) 0 = x3 at *
      obtain ⟨r00, r01⟩ := r0
      obtain ⟨r10, r11⟩ := r1
      obtain ⟨r20, r21⟩ := r2
      obtain ⟨r30, r31⟩ := r3
      obtain ⟨v', w', hrun, hown', hb2⟩ := append_word w.heap.size _ k _ wr.drew (16777216 * x0 + 65536 * x1 + 256 * x2 + x3) hown.out (by omega) hbl.size
      have hst : Hid (firstL xs (k + 1) = firstL xs k ++ [wordAt xs k]) := rfl
      have HRUN : Hid ((Builtin.append_ #[94, 94] 94 #[_, .slice (some ⟨wr.heap.size, 0, none⟩) 1 1]).run Tryd.prog (wr.alloc (.cells #[.int .u32 (16777216 * x0 + 65536 * x1 + 256 * x2 + x3)] 87)).drew = .ok v' w') := hrun
      have OO := Lib.hid hown'
      have B2 := hbl.drew.trans hb2
      have BB := Lib.hid B2
      have k0 := (B2.cell (p := ⟨b, o + 4 * k, none⟩) hb).trans ((hbl.cell (p := ⟨b, o + 4 * k, none⟩) hb).symm.trans g0)
      have k1 := (B2.cell (p := ⟨b, o + (4 * k + 1), none⟩) hb).trans ((hbl.cell (p := ⟨b, o + (4 * k + 1), none⟩) hb).symm.trans g1)
      have k2 := (B2.cell (p := ⟨b, o + (4 * k + 2), none⟩) hb).trans ((hbl.cell (p := ⟨b, o + (4 * k + 2), none⟩) hb).symm.trans g2)
      have k3 := (B2.cell (p := ⟨b, o + (4 * k + 3), none⟩) hb).trans ((hbl.cell (p := ⟨b, o + (4 * k + 3), none⟩) hb).symm.trans g3)
      have hbz : b < wr.heap.size := Nat.lt_of_lt_of_le hb hbl.size
      have hbe : ¬ b = wr.heap.size := by omega
      clear hrun hown' hb2 hown B2
      have i0 : IntKind.i64.wrap (4 * (k : Int)) = 4 * (k : Int) := IntWalk.i64_in _ (by omega)
      have i1 : IntKind.i64.wrap (4 * (k : Int) + 1) = 4 * (k : Int) + 1 := IntWalk.i64_in _ (by omega)
      have i2 : IntKind.i64.wrap (4 * (k : Int) + 2) = 4 * (k : Int) + 2 := IntWalk.i64_in _ (by omega)
      have i3 : IntKind.i64.wrap (4 * (k : Int) + 3) = 4 * (k : Int) + 3 := IntWalk.i64_in _ (by omega)
      have n0 : (4 * (k : Int)).toNat = 4 * k := by omega
      have n1 : (4 * (k : Int) + 1).toNat = 4 * k + 1 := by omega
      have n2 : (4 * (k : Int) + 2).toNat = 4 * k + 2 := by omega
      have n3 : (4 * (k : Int) + 3).toNat = 4 * k + 3 := by omega
      have z0 : 0 ≤ 4 * (k : Int) := by omega
      have z1 : 0 ≤ 4 * (k : Int) + 1 := by omega
      have z2 : 0 ≤ 4 * (k : Int) + 2 := by omega
      have z3 : 0 ≤ 4 * (k : Int) + 3 := by omega
      have y0 : 4 * (k : Int) < (n : Int) := by omega
      have y1 : 4 * (k : Int) + 1 < (n : Int) := by omega
      have y2 : 4 * (k : Int) + 2 < (n : Int) := by omega
      have y3 : 4 * (k : Int) + 3 < (n : Int) := by omega
      have u0 : IntKind.u32.wrap x0 = x0 := by rw [IntKind.wrap_u32]; omega
      have u1 : IntKind.u32.wrap x1 = x1 := by rw [IntKind.wrap_u32]; omega
      have u2 : IntKind.u32.wrap x2 = x2 := by rw [IntKind.wrap_u32]; omega
      have u3 : IntKind.u32.wrap x3 = x3 := by rw [IntKind.wrap_u32]; omega
      have u4 : IntKind.u32.wrap (16777216 * x0) = 16777216 * x0 := by rw [IntKind.wrap_u32]; omega
      have u5 : IntKind.u32.wrap (65536 * x1) = 65536 * x1 := by rw [IntKind.wrap_u32]; omega
      have u6 : IntKind.u32.wrap (256 * x2) = 256 * x2 := by rw [IntKind.wrap_u32]; omega
      have u7 : IntKind.u32.wrap (16777216 * x0 + 65536 * x1) = 16777216 * x0 + 65536 * x1 := by rw [IntKind.wrap_u32]; omega
      have u8 : IntKind.u32.wrap (16777216 * x0 + 65536 * x1 + 256 * x2) = 16777216 * x0 + 65536 * x1 + 256 * x2 := by rw [IntKind.wrap_u32]; omega
      have u9 : IntKind.u32.wrap (16777216 * x0 + 65536 * x1 + 256 * x2 + x3) = 16777216 * x0 + 65536 * x1 + 256 * x2 + x3 := by rw [IntKind.wrap_u32]; omega
      go_wp2_with fail
      go_region_held3 (fun u => u.cell? ⟨b, o + 4 * k, none⟩ = some (.int .u8 x0) ∧ u.cell? ⟨b, o + (4 * k + 1), none⟩ = some (.int .u8 x1) ∧ u.cell? ⟨b, o + (4 * k + 2), none⟩ = some (.int .u8 x2) ∧ u.cell? ⟨b, o + (4 * k + 3), none⟩ = some (.int .u8 x3))
        (first
          | exact ⟨k0, k1, k2, k3⟩
          | exact ⟨g0, g1, g2, g3⟩
          | exact ⟨(World.cell?_alloc_lt _ _ _ hbz).trans g0, (World.cell?_alloc_lt _ _ _ hbz).trans g1, (World.cell?_alloc_lt _ _ _ hbz).trans g2, (World.cell?_alloc_lt _ _ _ hbz).trans g3⟩)
        (first
          | ((refine step_append_run (by rfl) (.tmp 12) (.tmp 46) (by rfl) (by rfl) (by rfl) (by rfl) HRUN.out ?_)))
      clear i0 i1 i2 i3 n0 n1 n2 n3 z0 z1 z2 z3 y0 y1 y2 y3 u0 u1 u2 u3 u4 u5 u6 u7 u8 u9 g0 g1 g2 g3 k0 k1 k2 k3
      go_wp2
      go_roundw
      case rel =>
        refine ⟨k + 1, by omega, by go_num, BB.out, ?_⟩
        show World.ownsRow _ _ _ _ _ _ _
        rw [hst.out, List.map_append, hw.out]
        exact OO.out
      case measure => simp [intOf]; omega
    · obtain rfl : k = 16 := by omega
      go_wp2
      go_loopw [3, 5] (fun v i u => ∃ j : Nat, j ≤ 48 ∧ i = .int .i64 (j + 16) ∧ Below w.heap.size w u ∧ Hid (u.ownsRow w.heap.size 87 1 v (j + 16) ((moreL xs j).map u32v))) (fun _ i _ => 64 - (intOf i).toNat)
      case atStart => exact ⟨0, by omega, rfl, hbl, hown.out⟩
      case round =>
        clear hbl hown
        obtain ⟨j, hj, rfl, hbl, hown⟩ := hrel
        by_cases hlt : j < 48
        · rcases hown.out.2 with ⟨_, h0⟩ | ⟨g, cap, cur, rfl, hgb, hgr, hcap, hcm, _⟩
          · omega
          unfold maxLen at hcm
          have c0 := own_cell hown.out j (by omega)
          have c1 := own_cell hown.out (j + 1) (by omega)
          have c9 := own_cell hown.out (j + 9) (by omega)
          have c14 := own_cell hown.out (j + 14) (by omega)
          have w1 := InW.getD _ (moreL_in xs j) (j + 1)
          have w14 := InW.getD _ (moreL_in xs j) (j + 14)
          have hst : Hid (moreL xs (j + 1) = moreL xs j ++ [((moreL xs j).getD j 0 + (moreL xs j).getD (j + 9) 0 + smallS ((moreL xs j).getD (j + 1) 0) + smallT ((moreL xs j).getD (j + 14) 0)) % 4294967296]) := rfl
          generalize (moreL xs j).getD j 0 = y0 at *
          generalize (moreL xs j).getD (j + 1) 0 = y1 at *
          generalize (moreL xs j).getD (j + 9) 0 = y9 at *
          generalize (moreL xs j).getD (j + 14) 0 = y14 at *
          have T7 : Hid (∀ (u : World) (q : Nat), Calls Tryd.prog 83 #[.int .u32 y1, .int .i64 7] (u.drewN q) fun e w' => e = .returned (.int .u32 (rotI y1 7)) ∧ ∃ r, w' = u.drewN r) := fun u q => turn_at y1 w1 7 (by omega) (by omega) 7 rfl u q
          have T18 : Hid (∀ (u : World) (q : Nat), Calls Tryd.prog 83 #[.int .u32 y1, .int .i64 18] (u.drewN q) fun e w' => e = .returned (.int .u32 (rotI y1 18)) ∧ ∃ r, w' = u.drewN r) := fun u q => turn_at y1 w1 18 (by omega) (by omega) 18 rfl u q
          have T17 : Hid (∀ (u : World) (q : Nat), Calls Tryd.prog 83 #[.int .u32 y14, .int .i64 17] (u.drewN q) fun e w' => e = .returned (.int .u32 (rotI y14 17)) ∧ ∃ r, w' = u.drewN r) := fun u q => turn_at y14 w14 17 (by omega) (by omega) 17 rfl u q
          have T19 : Hid (∀ (u : World) (q : Nat), Calls Tryd.prog 83 #[.int .u32 y14, .int .i64 19] (u.drewN q) fun e w' => e = .returned (.int .u32 (rotI y14 19)) ∧ ∃ r, w' = u.drewN r) := fun u q => turn_at y14 w14 19 (by omega) (by omega) 19 rfl u q
          obtain ⟨w10, w11⟩ := w1
          obtain ⟨w140, w141⟩ := w14
          have s1 : IntKind.i64.wrap ((j : Int) + 16 - 15) = (j : Int) + 1 := by rw [IntWalk.i64_in _ (by omega)]; omega
          have s2 : IntKind.i64.wrap ((j : Int) + 16 - 2) = (j : Int) + 14 := by rw [IntWalk.i64_in _ (by omega)]; omega
          have s3 : IntKind.i64.wrap ((j : Int) + 16 - 16) = (j : Int) := by rw [IntWalk.i64_in _ (by omega)]; omega
          have s4 : IntKind.i64.wrap ((j : Int) + 16 - 7) = (j : Int) + 9 := by rw [IntWalk.i64_in _ (by omega)]; omega
          have s5 : IntKind.i64.wrap (j : Int) = (j : Int) := by rw [IntWalk.i64_in _ (by omega)]
          have t1 : ((j : Int) + 1).toNat = j + 1 := by omega
          have t2 : ((j : Int) + 14).toNat = j + 14 := by omega
          have t4 : ((j : Int) + 9).toNat = j + 9 := by omega
          have z1 : 0 ≤ (j : Int) + 1 := by omega
          have z2 : 0 ≤ (j : Int) + 14 := by omega
          have z4 : 0 ≤ (j : Int) + 9 := by omega
          have b1 : (j : Int) + 1 < (j : Int) + 16 := by omega
          have b2 : (j : Int) + 14 < (j : Int) + 16 := by omega
          have b3 : (j : Int) < (j : Int) + 16 := by omega
          have b4 : (j : Int) + 9 < (j : Int) + 16 := by omega
          have d1 : y1.tdiv 8 = y1 / 8 := Int.tdiv_eq_ediv_of_nonneg w10
          have d2 : y14.tdiv 1024 = y14 / 1024 := Int.tdiv_eq_ediv_of_nonneg w140
          have e1 : IntKind.u32.wrap (y1 / 8) = y1 / 8 := by rw [IntKind.wrap_u32]; omega
          have e2 : IntKind.u32.wrap (y14 / 1024) = y14 / 1024 := by rw [IntKind.wrap_u32]; omega
          go_wp2_with fail
          go_quiet ((go_at_call 83; first | (with_reducible exact T7.out _ _) | (with_reducible exact T18.out _ _)))
          have O1 : Hid ((wr.drewN nq).ownsRow w.heap.size 87 1 (.slice (some ⟨g, 0, none⟩) (j + 16) cap) (j + 16) ((moreL xs j).map u32v)) := hown
          have B1 := below_drewN hbl nq
          have c0' : (wr.drewN nq).cell? ⟨g, j, none⟩ = some (.int .u32 y0) := c0
          have c9' : (wr.drewN nq).cell? ⟨g, j + 9, none⟩ = some (.int .u32 y9) := c9
          have c14' : (wr.drewN nq).cell? ⟨g, j + 14, none⟩ = some (.int .u32 y14) := c14
          clear c0 c1 c9 c14 hown hbl hgr
          generalize wr.drewN nq = w2 at *
          go_wp2_with fail
          go_quiet ((go_at_call 83; first | (with_reducible exact T17.out _ _) | (with_reducible exact T19.out _ _)))
          have O2 : Hid ((w2.drewN nq).ownsRow w.heap.size 87 1 (.slice (some ⟨g, 0, none⟩) (j + 16) cap) (j + 16) ((moreL xs j).map u32v)) := O1
          have B2 := below_drewN B1 nq
          have c0 : (w2.drewN nq).cell? ⟨g, j, none⟩ = some (.int .u32 y0) := c0'
          have c9 : (w2.drewN nq).cell? ⟨g, j + 9, none⟩ = some (.int .u32 y9) := c9'
          clear c0' c9' c14' O1 B1
          generalize w2.drewN nq = w3 at *
          have hv : Hid ((y0 + smallS y1 + y9 + smallT y14) % 4294967296 = (y0 + y9 + smallS y1 + smallT y14) % 4294967296) := by show _ = _; congr 1; omega
          have hsS : Hid (bits BinOp.xor IntKind.u32 (bits BinOp.xor IntKind.u32 (rotI y1 7) (rotI y1 18)) (y1 / 8) = smallS y1) := rfl
          have hsT : Hid (bits BinOp.xor IntKind.u32 (bits BinOp.xor IntKind.u32 (rotI y14 17) (rotI y14 19)) (y14 / 1024) = smallT y14) := rfl
          have hu32 : ∀ z, IntKind.u32.wrap z = z % 4294967296 := IntKind.wrap_u32
          go_wp2_with fail
          rw [hsS.out, hsT.out]
          generalize smallS y1 = sS at *
          generalize smallT y14 = sT at *
          have hw3 := B2.size
          go_region_law (first
            | ((refine step_append_word (by rfl) (.tmp 92) (.tmp 108) (by rfl) (by rfl) (by rfl) (by rfl) O2.out (by omega) hw3 ?_); intro v' w' OO BB))
          all_goals
            have OH := Lib.hid OO
            have BH := Lib.hid (B2.trans BB)
            clear OO BB c0 c9 O2 B2 s1 s2 s3 s4 s5 t1 t2 t4 z1 z2 z4 b1 b2 b3 b4 d1 d2 e1 e2 hu32
            go_wp2
            go_roundw
            case rel =>
              repeat apply Exists.intro
              refine ⟨⟨j + 1, by omega, by go_num, BH.out, ?_⟩, rfl⟩
              show World.ownsRow _ _ _ _ _ _ _
              rw [show j + 1 + 16 = j + 16 + 1 by omega, hst.out, List.map_append, ← hv.out]
              exact OH.out
            case measure => simp [intOf]; omega
        · obtain rfl : j = 48 := by omega
          go_wp2
          go_ret
          exact ⟨_, rfl, hown.out, hbl⟩
theorem runL_in {s : S8} (h : s.In) (ws : List Int) : ∀ k, (runL s ws k).In
  | 0 => h
  | k + 1 => (runL_in h ws k).step _ _
set_option maxRecDepth 100000 in
theorem numbers_any (w : World) : Calls Tryd.prog 82 #[] w fun e w' => e = .returned (.slice (some ⟨w.heap.size, 0, none⟩) 64 64) ∧ Row w' w.heap.size 87 (roundNs.map u32v).toArray ∧ Below w.heap.size w w' := by
  go_enter Tryd.func82, Tryd.ntmps82
  go_wp2
  go_ret
  exact ⟨rfl, Row.new w 87 _, (Below.refl _ _).alloc (Nat.le_refl _) _⟩
theorem first_any (w : World) : Calls Tryd.prog 74 #[] w fun e w' => e = .returned (.slice (some ⟨w.heap.size, 0, none⟩) 8 8) ∧ Row w' w.heap.size 87 firstW.cells ∧ Below w.heap.size w w' := by
  go_enter Tryd.func74, Tryd.ntmps74
  go_wp2
  go_ret
  exact ⟨rfl, Row.new w 87 _, (Below.refl _ _).alloc (Nat.le_refl _) _⟩
theorem roundNs_get (i : Nat) (h : i < 64) : (roundNs.map u32v).toArray[i]? = some (.int .u32 (roundNs.getD i 0)) := by
  have hl : roundNs.length = 64 := rfl
  simp [u32v, List.getD, List.getElem?_eq_getElem (by omega : i < roundNs.length)]
theorem Keep.set {w : World} {s : Array Value} {gh : Nat} {ws : List Int} {gw g k : Nat} {u : World} {v : Value} (h : Keep w s gh w.heap.size ws gw u) (hg : w.heap.size + 1 ≤ g) (h1 : gh < w.heap.size) (h2 : gw < w.heap.size) : Keep w s gh w.heap.size ws gw (u.drew.setCell ⟨g, k, none⟩ v) :=
  ⟨h.b.drew.setCell (by simp; omega) _, h.h.drew.far (by simp; omega) _, h.k.drew.far (by simp; omega) _, fun i hi => (World.cell?_setCell_other u.drew ⟨g, k, none⟩ ⟨gw, i, none⟩ v (fun e => by injection e; omega)).trans (h.w i hi), by have := h.lw; simpa [World.setCell] using this⟩
set_option maxHeartbeats 8000000 in
set_option maxRecDepth 100000 in
theorem rrounds_any (s : S8) (hcs : Array Value) (gh ch gw cw : Nat) (ws : List Int) (w : World) (hs : s.In) (hh : Row w gh 87 hcs) (hhc : ∀ i, i < 8 → hcs[i]? = some (.int .u32 (s.get i))) (hw : ∀ i, i < 64 → w.cell? ⟨gw, i, none⟩ = some (.int .u32 (ws.getD i 0))) (hwl : gw < w.heap.size) :
    Calls Tryd.prog 75 #[.slice (some ⟨gh, 0, none⟩) 8 ch, .slice (some ⟨gw, 0, none⟩) 64 cw] w fun e w' => ∃ v, e = .returned v ∧ V8 w.heap.size v (s.add (runL s ws 64)) w' ∧ Below w.heap.size w w' := by
  have HW := Lib.hid hw
  have HHC := Lib.hid hhc
  have hgh0 := hh.lt
  clear hw hhc
  go_enter Tryd.func75, Tryd.ntmps75
  go_wp2_with fail
  refine (numbers_any w).mono ?_
  rintro e w1 ⟨rfl, rk, hb1⟩
  have K1 : Keep w hcs gh w.heap.size ws gw w1 := ⟨hb1, hh.below hb1 hh.lt, rk, fun i hi => (hb1.cell (p := ⟨gw, i, none⟩) hwl).trans (HW.out i hi), Nat.lt_of_lt_of_le hwl hb1.size⟩
  have sk := rk.lt
  obtain ⟨v', w', hrun, hown, hgr⟩ := append_words (w.heap.size + 1) (.slice none 0 0) 0 [] w1 (World.ownsRow_nil _ _ _ _) ⟨gh, 0, none⟩ 8 ch [s.a, s.b, s.c, s.d, s.e, s.f, s.g, s.h] rfl (fun j u hu => by
    have hj : j < 8 := by
      rcases Nat.lt_or_ge j 8 with h' | h'
      · exact h'
      · rw [List.getElem?_eq_none (by simpa using h')] at hu
        cases hu
    rw [Addr.add_mid, Nat.zero_add, K1.h.cell j, HHC.out j hj, ← hu]
    rcases j with _ | _ | _ | _ | _ | _ | _ | _ | j <;> first | omega | rfl) (by omega) (by omega)
  have hb2 : Below w1.heap.size w1 w' := below_of_grown hgr (fun g hg => by simp [Value.ownBlock] at hg) (Nat.le_refl _)
  have K2 := Lib.hid (K1.below hb2)
  have V2 : Hid (V8 (w.heap.size + 1) v' s w') := by
    rcases hown.2 with ⟨_, h0⟩ | ⟨g, cap, cur, e, hg, hh, _, _, _, ht⟩
    · omega
    · refine ⟨g, cap, cur, e, hg, hh, fun i hi => ?_⟩
      have h1 : cur.toList[i]? = (cur.toList.take (8 * 1))[i]? := by rw [List.getElem?_take_of_lt (by omega)]
      rw [← Array.getElem?_toList, h1, show (8 * 1) = (0 + 8) * 1 by omega, ht]
      rcases i with _ | _ | _ | _ | _ | _ | _ | _ | i <;> first | omega | rfl
  have HRUN := Lib.hid hrun
  clear hrun hown hgr hb2 K1 rk hb1 hh
  go_wp2_with (at_builtin; (with_reducible refine wpList_append_run (o := ⟨some 16, _, _, _, _, _⟩) ?_ (.const (.slice none 0 0)) (.tmp 15) ?_ ?_ ?_ ?_ HRUN.out ?_); (rfl); (rfl); (rfl); (rfl); (rfl))
  go_loopw [6, 7] (fun v i u => ∃ j : Nat, j ≤ 64 ∧ i = .int .i64 j ∧ Hid (Keep w hcs gh w.heap.size ws gw u ∧ V8 (w.heap.size + 1) v (runL s ws j) u)) (fun _ i _ => 64 - (intOf i).toNat)
  case atStart => exact ⟨0, by omega, rfl, K2.out, V2.out⟩
  case round =>
    clear K2 V2 HRUN
    obtain ⟨j, hj, rfl, hrel2⟩ := hrel
    obtain ⟨hk, hv⟩ := hrel2.out
    by_cases hlt : j < 64
    · obtain ⟨g, cap, cur, rfl, hg, hr, hc⟩ := hv
      have hst : Hid (runL s ws (j + 1) = (runL s ws j).step (roundNs.getD j 0) (ws.getD j 0)) := rfl
      have hin := runL_in hs ws j
      have ek := (hk.k.cell j).trans (roundNs_get j hlt)
      have ew := hk.w j hlt
      have E := Lib.hid hk
      generalize roundNs.getD j 0 = kv at *
      generalize ws.getD j 0 = wv at *
      generalize runL s ws j = st at *
      have e0 : wr.cell? ⟨g, 0, none⟩ = some (.int .u32 st.a) := (hr.cell 0).trans (hc 0 (by omega))
      have e1 : wr.cell? ⟨g, 1, none⟩ = some (.int .u32 st.b) := (hr.cell 1).trans (hc 1 (by omega))
      have e2 : wr.cell? ⟨g, 2, none⟩ = some (.int .u32 st.c) := (hr.cell 2).trans (hc 2 (by omega))
      have e3 : wr.cell? ⟨g, 3, none⟩ = some (.int .u32 st.d) := (hr.cell 3).trans (hc 3 (by omega))
      have e4 : wr.cell? ⟨g, 4, none⟩ = some (.int .u32 st.e) := (hr.cell 4).trans (hc 4 (by omega))
      have e5 : wr.cell? ⟨g, 5, none⟩ = some (.int .u32 st.f) := (hr.cell 5).trans (hc 5 (by omega))
      have e6 : wr.cell? ⟨g, 6, none⟩ = some (.int .u32 st.g) := (hr.cell 6).trans (hc 6 (by omega))
      have e7 : wr.cell? ⟨g, 7, none⟩ = some (.int .u32 st.h) := (hr.cell 7).trans (hc 7 (by omega))
      have T6 : Hid (∀ (u : World) (q : Nat), Calls Tryd.prog 83 #[.int .u32 st.e, .int .i64 6] (u.drewN q) fun e w' => e = .returned (.int .u32 (rotI st.e 6)) ∧ ∃ r, w' = u.drewN r) := fun u q => turn_at st.e hin.e 6 (by omega) (by omega) 6 rfl u q
      have T11 : Hid (∀ (u : World) (q : Nat), Calls Tryd.prog 83 #[.int .u32 st.e, .int .i64 11] (u.drewN q) fun e w' => e = .returned (.int .u32 (rotI st.e 11)) ∧ ∃ r, w' = u.drewN r) := fun u q => turn_at st.e hin.e 11 (by omega) (by omega) 11 rfl u q
      have T25 : Hid (∀ (u : World) (q : Nat), Calls Tryd.prog 83 #[.int .u32 st.e, .int .i64 25] (u.drewN q) fun e w' => e = .returned (.int .u32 (rotI st.e 25)) ∧ ∃ r, w' = u.drewN r) := fun u q => turn_at st.e hin.e 25 (by omega) (by omega) 25 rfl u q
      have T2 : Hid (∀ (u : World) (q : Nat), Calls Tryd.prog 83 #[.int .u32 st.a, .int .i64 2] (u.drewN q) fun e w' => e = .returned (.int .u32 (rotI st.a 2)) ∧ ∃ r, w' = u.drewN r) := fun u q => turn_at st.a hin.a 2 (by omega) (by omega) 2 rfl u q
      have T13 : Hid (∀ (u : World) (q : Nat), Calls Tryd.prog 83 #[.int .u32 st.a, .int .i64 13] (u.drewN q) fun e w' => e = .returned (.int .u32 (rotI st.a 13)) ∧ ∃ r, w' = u.drewN r) := fun u q => turn_at st.a hin.a 13 (by omega) (by omega) 13 rfl u q
      have T22 : Hid (∀ (u : World) (q : Nat), Calls Tryd.prog 83 #[.int .u32 st.a, .int .i64 22] (u.drewN q) fun e w' => e = .returned (.int .u32 (rotI st.a 22)) ∧ ∃ r, w' = u.drewN r) := fun u q => turn_at st.a hin.a 22 (by omega) (by omega) 22 rfl u q
      have hmaj := Lib.hid (maj_eq st.a st.b st.c hin.a hin.b hin.c)
      have hch := Lib.hid (ch_eq st.e st.f st.g hin.e)
      have ie := hin.e
      obtain ⟨ie0, ie1⟩ := ie
      have us : IntKind.u32.wrap (4294967295 - st.e) = 4294967295 - st.e := by rw [IntKind.wrap_u32]; omega
      have hj2 : (j : Int) < 64 := by omega
      clear hr hc hk hrel2 hin
      go_wp2_with fail
      go_quiet ((go_at_call 83; first | (with_reducible exact T6.out _ _) | (with_reducible exact T11.out _ _) | (with_reducible exact T25.out _ _)))
      have f0 : (wr.drewN nq).cell? ⟨g, 0, none⟩ = some (.int .u32 st.a) := e0
      have f1 : (wr.drewN nq).cell? ⟨g, 1, none⟩ = some (.int .u32 st.b) := e1
      have f2 : (wr.drewN nq).cell? ⟨g, 2, none⟩ = some (.int .u32 st.c) := e2
      have f3 : (wr.drewN nq).cell? ⟨g, 3, none⟩ = some (.int .u32 st.d) := e3
      have f4 : (wr.drewN nq).cell? ⟨g, 4, none⟩ = some (.int .u32 st.e) := e4
      have f5 : (wr.drewN nq).cell? ⟨g, 5, none⟩ = some (.int .u32 st.f) := e5
      have f6 : (wr.drewN nq).cell? ⟨g, 6, none⟩ = some (.int .u32 st.g) := e6
      have f7 : (wr.drewN nq).cell? ⟨g, 7, none⟩ = some (.int .u32 st.h) := e7
      have fk : (wr.drewN nq).cell? ⟨w.heap.size, j, none⟩ = some (.int .u32 kv) := ek
      have fw : (wr.drewN nq).cell? ⟨gw, j, none⟩ = some (.int .u32 wv) := ew
      have F : Hid (Keep w hcs gh w.heap.size ws gw (wr.drewN nq)) := E.out.drewN nq
      clear e0 e1 e2 e3 e4 e5 e6 e7 ek ew E
      generalize wr.drewN nq = w2 at *
      clear nq
      have e0 := f0
      have e1 := f1
      have e2 := f2
      have e3 := f3
      have e4 := f4
      have e5 := f5
      have e6 := f6
      have e7 := f7
      have ek := fk
      have ew := fw
      have E := F
      clear f0 f1 f2 f3 f4 f5 f6 f7 fk fw F
      have hs1 : Hid (bits BinOp.xor IntKind.u32 (bits BinOp.xor IntKind.u32 (rotI st.e 6) (rotI st.e 11)) (rotI st.e 25) = sig1 st.e) := rfl
      rw [hs1.out]
      go_wp2_with fail
      go_quiet (fail)
      have f0 : (w2.drewN nq).cell? ⟨g, 0, none⟩ = some (.int .u32 st.a) := e0
      have f1 : (w2.drewN nq).cell? ⟨g, 1, none⟩ = some (.int .u32 st.b) := e1
      have f2 : (w2.drewN nq).cell? ⟨g, 2, none⟩ = some (.int .u32 st.c) := e2
      have f3 : (w2.drewN nq).cell? ⟨g, 3, none⟩ = some (.int .u32 st.d) := e3
      have f4 : (w2.drewN nq).cell? ⟨g, 4, none⟩ = some (.int .u32 st.e) := e4
      have f5 : (w2.drewN nq).cell? ⟨g, 5, none⟩ = some (.int .u32 st.f) := e5
      have f6 : (w2.drewN nq).cell? ⟨g, 6, none⟩ = some (.int .u32 st.g) := e6
      have f7 : (w2.drewN nq).cell? ⟨g, 7, none⟩ = some (.int .u32 st.h) := e7
      have fk : (w2.drewN nq).cell? ⟨w.heap.size, j, none⟩ = some (.int .u32 kv) := ek
      have fw : (w2.drewN nq).cell? ⟨gw, j, none⟩ = some (.int .u32 wv) := ew
      have F : Hid (Keep w hcs gh w.heap.size ws gw (w2.drewN nq)) := E.out.drewN nq
      clear e0 e1 e2 e3 e4 e5 e6 e7 ek ew E
      generalize w2.drewN nq = w3 at *
      clear nq
      have e0 := f0
      have e1 := f1
      have e2 := f2
      have e3 := f3
      have e4 := f4
      have e5 := f5
      have e6 := f6
      have e7 := f7
      have ek := fk
      have ew := fw
      have E := F
      clear f0 f1 f2 f3 f4 f5 f6 f7 fk fw F
      rw [hch.out]
      go_wp2_with fail
      go_quiet (fail)
      have f0 : (w3.drewN nq).cell? ⟨g, 0, none⟩ = some (.int .u32 st.a) := e0
      have f1 : (w3.drewN nq).cell? ⟨g, 1, none⟩ = some (.int .u32 st.b) := e1
      have f2 : (w3.drewN nq).cell? ⟨g, 2, none⟩ = some (.int .u32 st.c) := e2
      have f3 : (w3.drewN nq).cell? ⟨g, 3, none⟩ = some (.int .u32 st.d) := e3
      have f4 : (w3.drewN nq).cell? ⟨g, 4, none⟩ = some (.int .u32 st.e) := e4
      have f5 : (w3.drewN nq).cell? ⟨g, 5, none⟩ = some (.int .u32 st.f) := e5
      have f6 : (w3.drewN nq).cell? ⟨g, 6, none⟩ = some (.int .u32 st.g) := e6
      have f7 : (w3.drewN nq).cell? ⟨g, 7, none⟩ = some (.int .u32 st.h) := e7
      have fk : (w3.drewN nq).cell? ⟨w.heap.size, j, none⟩ = some (.int .u32 kv) := ek
      have fw : (w3.drewN nq).cell? ⟨gw, j, none⟩ = some (.int .u32 wv) := ew
      have F : Hid (Keep w hcs gh w.heap.size ws gw (w3.drewN nq)) := E.out.drewN nq
      clear e0 e1 e2 e3 e4 e5 e6 e7 ek ew E
      generalize w3.drewN nq = w4 at *
      clear nq
      have e0 := f0
      have e1 := f1
      have e2 := f2
      have e3 := f3
      have e4 := f4
      have e5 := f5
      have e6 := f6
      have e7 := f7
      have ek := fk
      have ew := fw
      have E := F
      clear f0 f1 f2 f3 f4 f5 f6 f7 fk fw F
      go_wp2_with fail
      go_quiet ((go_at_call 83; first | (with_reducible exact T2.out _ _) | (with_reducible exact T13.out _ _) | (with_reducible exact T22.out _ _)))
      have f0 : (w4.drewN nq).cell? ⟨g, 0, none⟩ = some (.int .u32 st.a) := e0
      have f1 : (w4.drewN nq).cell? ⟨g, 1, none⟩ = some (.int .u32 st.b) := e1
      have f2 : (w4.drewN nq).cell? ⟨g, 2, none⟩ = some (.int .u32 st.c) := e2
      have f3 : (w4.drewN nq).cell? ⟨g, 3, none⟩ = some (.int .u32 st.d) := e3
      have f4 : (w4.drewN nq).cell? ⟨g, 4, none⟩ = some (.int .u32 st.e) := e4
      have f5 : (w4.drewN nq).cell? ⟨g, 5, none⟩ = some (.int .u32 st.f) := e5
      have f6 : (w4.drewN nq).cell? ⟨g, 6, none⟩ = some (.int .u32 st.g) := e6
      have f7 : (w4.drewN nq).cell? ⟨g, 7, none⟩ = some (.int .u32 st.h) := e7
      have fk : (w4.drewN nq).cell? ⟨w.heap.size, j, none⟩ = some (.int .u32 kv) := ek
      have fw : (w4.drewN nq).cell? ⟨gw, j, none⟩ = some (.int .u32 wv) := ew
      have F : Hid (Keep w hcs gh w.heap.size ws gw (w4.drewN nq)) := E.out.drewN nq
      clear e0 e1 e2 e3 e4 e5 e6 e7 ek ew E
      generalize w4.drewN nq = w5 at *
      clear nq
      have e0 := f0
      have e1 := f1
      have e2 := f2
      have e3 := f3
      have e4 := f4
      have e5 := f5
      have e6 := f6
      have e7 := f7
      have ek := fk
      have ew := fw
      have E := F
      clear f0 f1 f2 f3 f4 f5 f6 f7 fk fw F
      have hs0 : Hid (bits BinOp.xor IntKind.u32 (bits BinOp.xor IntKind.u32 (rotI st.a 2) (rotI st.a 13)) (rotI st.a 22) = sig0 st.a) := rfl
      rw [hs0.out]
      go_wp2_with fail
      go_quiet (fail)
      have f0 : (w5.drewN nq).cell? ⟨g, 0, none⟩ = some (.int .u32 st.a) := e0
      have f1 : (w5.drewN nq).cell? ⟨g, 1, none⟩ = some (.int .u32 st.b) := e1
      have f2 : (w5.drewN nq).cell? ⟨g, 2, none⟩ = some (.int .u32 st.c) := e2
      have f3 : (w5.drewN nq).cell? ⟨g, 3, none⟩ = some (.int .u32 st.d) := e3
      have f4 : (w5.drewN nq).cell? ⟨g, 4, none⟩ = some (.int .u32 st.e) := e4
      have f5 : (w5.drewN nq).cell? ⟨g, 5, none⟩ = some (.int .u32 st.f) := e5
      have f6 : (w5.drewN nq).cell? ⟨g, 6, none⟩ = some (.int .u32 st.g) := e6
      have f7 : (w5.drewN nq).cell? ⟨g, 7, none⟩ = some (.int .u32 st.h) := e7
      have fk : (w5.drewN nq).cell? ⟨w.heap.size, j, none⟩ = some (.int .u32 kv) := ek
      have fw : (w5.drewN nq).cell? ⟨gw, j, none⟩ = some (.int .u32 wv) := ew
      have F : Hid (Keep w hcs gh w.heap.size ws gw (w5.drewN nq)) := E.out.drewN nq
      clear e0 e1 e2 e3 e4 e5 e6 e7 ek ew E
      generalize w5.drewN nq = w6 at *
      clear nq
      have e0 := f0
      have e1 := f1
      have e2 := f2
      have e3 := f3
      have e4 := f4
      have e5 := f5
      have e6 := f6
      have e7 := f7
      have ek := fk
      have ew := fw
      have E := F
      clear f0 f1 f2 f3 f4 f5 f6 f7 fk fw F
      rw [hmaj.out]
      go_wp2_with fail
      go_still_tail 28, (by kernel_rfl)
      change wpList _ _ _ _ _ w6.drew
      go_wp2_with fail
      have hA : Hid ((st.h + sig1 st.e + chI st.e st.f st.g + kv + wv + sig0 st.a + majI st.a st.b st.c) % 4294967296 = (st.step kv wv).a) := by
        show _ = (st.h + sig1 st.e + chI st.e st.f st.g + kv + wv + (sig0 st.a + majI st.a st.b st.c)) % 4294967296
        rw [Int.add_assoc]
      have hk6 := E.out.k.lt
      go_roundw
      case rel =>
        refine ⟨j + 1, by omega, by go_num, E.out.below (Below.drew ((Below.refl _ _).alloc (Nat.le_refl _) _)), w6.heap.size, 8, _, rfl, by omega, Row.new w6 87 _, fun i hi => ?_⟩
        rw [hst.out, hA.out]
        rcases i with _ | _ | _ | _ | _ | _ | _ | _ | i <;> first | omega | rfl
      case measure => simp [intOf]; omega
    · obtain rfl : j = 64 := by omega
      obtain ⟨g, cap, cur, rfl, hg, hr, hc⟩ := hv
      generalize hTT : runL s ws 64 = tt at *
      have HTT := Lib.hid hTT
      clear hTT hrel2
      have R0 := Lib.hid (⟨hk, cur, hr, hc⟩ : Keep w hcs gh w.heap.size ws gw wr ∧ ∃ cur, Row wr g 87 cur ∧ ∀ i, i < 8 → cur[i]? = some (.int .u32 ((tt.addTo s 0).get i)))
      clear hk hr hc
      go_wp2_with fail
      go_loopw [13] (fun i u => ∃ k : Nat, k ≤ 8 ∧ i = .int .i64 k ∧ Hid (Keep w hcs gh w.heap.size ws gw u ∧ ∃ cur, Row u g 87 cur ∧ ∀ i, i < 8 → cur[i]? = some (.int .u32 ((tt.addTo s k).get i)))) (fun i _ => 8 - (intOf i).toNat)
      case atStart => exact ⟨0, by omega, rfl, R0.out⟩
      case round =>
        clear R0
        obtain ⟨k, hk8, rfl, hrel2⟩ := hrel
        obtain ⟨hk, cur, hr, hc⟩ := hrel2.out
        by_cases hlt : k < 8
        · have e0 : wr.cell? ⟨g, k, none⟩ = some (.int .u32 (tt.get k)) := by rw [hr.cell k, hc k hlt, S8.addTo_get tt s k hlt]
          have e1 : wr.cell? ⟨gh, k, none⟩ = some (.int .u32 (s.get k)) := by rw [hk.h.cell k, HHC.out k hlt]
          have f0 := hr.frozen k
          have E := Lib.hid hk
          have R := Lib.hid hr
          have C := Lib.hid hc
          have hput : Hid (∀ i, i < 8 → (tt.addTo s (k + 1)).get i = if i = k then (tt.get k + s.get k) % 4294967296 else (tt.addTo s k).get i) := by
            intro i hi
            rcases k with _ | _ | _ | _ | _ | _ | _ | _ | k <;> first | omega | (rcases i with _ | _ | _ | _ | _ | _ | _ | _ | i <;> first | omega | rfl)
          clear hk hr hc hrel2
          have hl2 : (k : Int) < 8 := by omega
          go_wp2_with fail
          go_still_tail 11, (by kernel_rfl)
          change wpList _ _ _ _ _ wr.drew
          go_wp2
          go_roundw
          case rel =>
            repeat apply Exists.intro
            refine ⟨⟨k + 1, by omega, by go_num, E.out.set hg hgh0 hwl, _, R.out.drew.put k _, fun i hi => ?_⟩, rfl⟩
            have hkc := C.out k hlt
            have hks : k < cur.size := by
              rcases Nat.lt_or_ge k cur.size with h' | h'
              · exact h'
              · rw [Array.getElem?_eq_none h'] at hkc
                cases hkc
            rw [Array.getElem?_setIfInBounds, hput.out i hi]
            by_cases e : k = i
            · subst e
              rw [if_pos rfl, if_pos hks, if_pos rfl]
            · rw [if_neg e, if_neg (fun h => e h.symm)]
              exact C.out i hi
          case measure => simp [intOf]; omega
        · obtain rfl : k = 8 := by omega
          have E := Lib.hid hk
          have R := Lib.hid hr
          have C := Lib.hid hc
          clear hk hr hc hrel2
          go_wp2
          go_ret
          have hadd : s.add (runL s ws 64) = tt.addTo s 8 := by
            rw [HTT.out, S8.addTo_all]
            simp only [S8.add, Int.add_comm]
          exact ⟨_, rfl, ⟨g, cap, cur, rfl, by omega, R.out, by rw [hadd]; exact C.out⟩, E.out.b⟩
theorem append_byte (base : Nat) (v : Value) (n : Nat) (l : List Value) (w : World) (x : Int) (hown : w.ownsRow base 5 1 v n l) (hs : n ≤ 70368744177663) (hbase : base ≤ w.heap.size) :
    ∃ v' w', (Builtin.append_ #[63, 63] 63 #[v, .slice (some ⟨w.heap.size, 0, none⟩) 1 1]).run Tryd.prog (w.alloc (.cells #[.int .u8 x] 5)) = .ok v' w' ∧ w'.ownsRow base 5 1 v' (n + 1) (l ++ [u8v x]) ∧ Below base w w' := by
  have ho := hown.alloc (.cells #[.int .u8 x] 5)
  obtain ⟨v', w', hrun, hown', hg⟩ := append_bytes base v n l (w.alloc (.cells #[.int .u8 x] 5)) ho (some ⟨w.heap.size, 0, none⟩) 1 1 (w.heap.size + 1) [x] rfl (fun _ => ⟨_, rfl, by simp, fun j u hu => by
    rcases j with _ | j
    · have hu' : u8v x = u := by simpa using hu
      subst hu'
      exact (Row.new w 5 #[.int .u8 x]).cell 0
    · simp at hu⟩) (by omega) (by simp; omega)
  refine ⟨v', w', hrun, hown', ?_⟩
  have hb : Below base w (w.alloc (.cells #[.int .u8 x] 5)) := (Below.refl _ _).alloc hbase _
  exact hb.trans (below_of_grown hg (fun g hg => (ho.lt g hg).1) (by simp; omega))
theorem own_len {base n : Nat} {v : Value} {l : List Value} {w : World} (h : w.ownsRow base 5 1 v n l) (hn : 0 < n) : ∃ g cap, v = .slice (some ⟨g, 0, none⟩) n cap := by
  rcases h.2 with ⟨_, h0⟩ | ⟨g, cap, cur, e, _⟩
  · omega
  · exact ⟨g, cap, e⟩
/-- the bytes ahead of the length -/
def headL (xs : List Int) (k : Nat) : List Int := xs ++ [128] ++ List.replicate k 0
def divs (k : Nat) : Int := 72057594037927936 / 256 ^ k
def tailL (n : Nat) : Nat → List Int
  | 0 => []
  | k + 1 => tailL n k ++ [8 * (n : Int) / divs k % 256]
theorem divs_step (k : Nat) (h : k < 8) : divs (k + 1) = divs k / 256 ∧ 0 < divs k ∧ divs k ≤ 72057594037927936 := by
  rcases k with _ | _ | _ | _ | _ | _ | _ | _ | k
  all_goals first | omega | decide
theorem tailL_all (n : Nat) (h : n ≤ 70368744177) : tailL n 8 = lenL n := by
  have d0 : divs 0 = 72057594037927936 := by decide
  have d1 : divs 1 = 281474976710656 := by decide
  have d2 : divs 2 = 1099511627776 := by decide
  have d3 : divs 3 = 4294967296 := by decide
  have d4 : divs 4 = 16777216 := by decide
  have d5 : divs 5 = 65536 := by decide
  have d6 : divs 6 = 256 := by decide
  have d7 : divs 7 = 1 := by decide
  simp only [tailL, d0, d1, d2, d3, d4, d5, d6, d7, lenL, List.nil_append, List.cons_append, List.cons.injEq, and_true]
  refine ⟨?_, ?_, ?_, ?_, ?_, ?_, ?_, ?_⟩
  all_goals first | omega | trivial
set_option maxHeartbeats 4000000 in
set_option maxRecDepth 100000 in
theorem rpad_any (A : Option Addr) (n c : Nat) (xs : List Int) (w : World) (hl : xs.length = n) (hn : n ≤ 70368744177) (hx : Bytes w w.heap.size A xs) :
    Calls Tryd.prog 73 #[.slice A n c] w fun e w' => ∃ v, e = .returned v ∧ w'.ownsRow w.heap.size 5 1 v ((n + 72) / 64 * 64) ((padL xs ((n + 72) / 64 * 64)).map u8v) ∧ Below w.heap.size w w' := by
  obtain ⟨v1, w1, hrun1, hown1, hg1⟩ := append_bytes w.heap.size (.slice none 0 0) 0 [] w (World.ownsRow_nil _ _ _ _) A n c w.heap.size xs hl hx (by omega) (Nat.le_refl _)
  have b1 : Below w.heap.size w w1 := below_of_grown hg1 (fun g hg => by simp [Value.ownBlock] at hg) (Nat.le_refl _)
  rw [Nat.zero_add, List.nil_append] at hown1
  obtain ⟨v2, w2, hrun2, hown2, b2⟩ := append_byte w.heap.size v1 n _ w1 128 hown1 (by omega) b1.size
  have HR1 := Lib.hid hrun1
  have HR2 := Lib.hid hrun2
  have O2 : Hid (w2.ownsRow w.heap.size 5 1 v2 (n + 1 + 0) ((headL xs 0).map u8v)) := by
    show World.ownsRow _ _ _ _ _ _ _
    simpa [headL, List.map_append] using hown2
  have B2 := Lib.hid (b1.trans b2)
  have HL := Lib.hid hl
  clear hrun1 hrun2 hown1 hown2 hg1 b2 hx hl
  obtain ⟨q, hq⟩ : ∃ q : Nat, n + 1 + q + 8 = (n + 72) / 64 * 64 := ⟨(n + 72) / 64 * 64 - n - 9, by omega⟩
  have hq1 : (n + 1 + q) % 64 = 56 := by omega
  have hq2 : q < 64 := by omega
  have HQ := Lib.hid hq
  clear hq
  go_enter Tryd.func73, Tryd.ntmps73
  go_wp2_with (first
    | (at_builtin; (with_reducible refine wpList_append_run (o := ⟨some 8, _, _, _, _, _⟩) ?_ (.const (.slice none 0 0)) (.tmp 7) ?_ ?_ ?_ ?_ HR1.out ?_); (rfl); (rfl); (rfl); (rfl); (rfl))
    | (at_builtin; (with_reducible refine wpList_append_run (o := ⟨some 11, _, _, _, _, _⟩) ?_ (.tmp 9) (.tmp 10) ?_ ?_ ?_ ?_ HR2.out ?_); (rfl); (rfl); (rfl); (rfl); (rfl)))
  go_loopw [3] (fun v u => ∃ k : Nat, k ≤ q ∧ Hid (u.ownsRow w.heap.size 5 1 v (n + 1 + k) ((headL xs k).map u8v) ∧ Below w.heap.size w u)) (fun v _ => n + 1 + q - (match v with | .slice _ m _ => m | _ => 0))
  case atStart => exact ⟨0, by omega, O2.out, B2.out⟩
  case round =>
    clear HR1 HR2 O2 B2
    obtain ⟨k, hk, hrows⟩ := hrel
    obtain ⟨hown, hbl⟩ := hrows.out
    obtain ⟨g, cap, rfl⟩ := own_len hown (by omega)
    by_cases hlt : k < q
    · have hne : (((n : Int) + 1 + (k : Int)) % 64 != 56) = true := by simp; omega
      obtain ⟨v', w', hrun, hown', hb2⟩ := append_byte w.heap.size _ _ _ wr 0 hown (by omega) hbl.size
      have HR := Lib.hid hrun
      have OO : Hid (w'.ownsRow w.heap.size 5 1 v' (n + 1 + (k + 1)) ((headL xs (k + 1)).map u8v)) := by
        show World.ownsRow _ _ _ _ _ _ _
        have e : headL xs (k + 1) = headL xs k ++ [0] := by simp [headL, List.replicate_succ']
        rw [e, List.map_append]
        exact hown'
      have BB := Lib.hid (hbl.trans hb2)
      obtain ⟨g', cap', rfl⟩ := own_len OO.out (by omega)
      clear hrun hown' hb2 hown hbl hrows
      go_wp2_with (at_builtin; (with_reducible refine wpList_append_run (o := ⟨some 18, _, _, _, _, _⟩) ?_ (.tmp 16) (.tmp 17) ?_ ?_ ?_ ?_ HR.out ?_); (rfl); (rfl); (rfl); (rfl); (rfl))
      go_roundw
      case rel => exact ⟨k + 1, by omega, OO.out, BB.out⟩
      case measure => show n + 1 + q - (n + 1 + (k + 1)) < n + 1 + q - (n + 1 + k); omega
    · obtain rfl : k = q := by omega
      have hne : (((n : Int) + 1 + (k : Int)) % 64 != 56) = false := by simp; omega
      have R0 := Lib.hid hrows.out
      clear hown hbl hrows
      go_wp2_with fail
      go_loopw [3, 5, 6] (fun v d i u => ∃ j : Nat, j ≤ 8 ∧ i = .int .i64 j ∧ d = .int .u64 (divs j) ∧ Hid (u.ownsRow w.heap.size 5 1 v (n + 1 + k + j) ((headL xs k ++ tailL n j).map u8v) ∧ Below w.heap.size w u)) (fun _ _ i _ => 8 - (intOf i).toNat)
      case atStart =>
        refine ⟨0, by omega, rfl, by rfl, ?_⟩
        have := R0.out
        show _ ∧ _
        simpa [tailL] using this
      case round =>
        clear R0
        obtain ⟨j, hj, rfl, rfl, hrows⟩ := hrel
        obtain ⟨hown, hbl⟩ := hrows.out
        obtain ⟨g1, cap1, rfl⟩ := own_len hown (by omega)
        by_cases hlt : j < 8
        · obtain ⟨ds, d0, d1⟩ := divs_step j hlt
          have DS := Lib.hid ds
          have hT : Hid (tailL n (j + 1) = tailL n j ++ [8 * (n : Int) / divs j % 256]) := rfl
          obtain ⟨v', w', hrun, hown', hb2⟩ := append_byte w.heap.size _ _ _ wr (8 * (n : Int) / divs j % 256) hown (by omega) hbl.size
          have HR := Lib.hid hrun
          have OO : Hid (w'.ownsRow w.heap.size 5 1 v' (n + 1 + k + (j + 1)) ((headL xs k ++ tailL n (j + 1)).map u8v)) := by
            show World.ownsRow _ _ _ _ _ _ _
            rw [hT.out, ← List.append_assoc, List.map_append]
            exact hown'
          have BB := Lib.hid (hbl.trans hb2)
          clear hrun hown' hb2 hown hbl hrows ds
          generalize divs j = d at *
          have p0 : 0 ≤ 8 * (n : Int) / d := Int.ediv_nonneg (by omega) (by omega)
          have p1 : 8 * (n : Int) / d ≤ 8 * (n : Int) := Int.ediv_le_self _ (by omega)
          have p2 : (d == 0) = false := by simp; omega
          go_wp2_with (at_builtin; (with_reducible refine wpList_append_run (o := ⟨some 34, _, _, _, _, _⟩) ?_ (.tmp 27) (.tmp 33) ?_ ?_ ?_ ?_ HR.out ?_); (rfl); (rfl); (rfl); (rfl); (rfl))
          go_roundw
          case rel => exact ⟨j + 1, by omega, by go_num, by rw [DS.out], OO.out, BB.out⟩
          case measure => simp [intOf]; omega
        · obtain rfl : j = 8 := by omega
          have hfin : headL xs k ++ tailL n 8 = padL xs ((n + 72) / 64 * 64) := by
            rw [tailL_all n (by omega)]
            unfold padL headL
            have hq := HQ.out
            rw [HL.out, show (n + 72) / 64 * 64 - 9 - n = k by omega]
          have OF : Hid (wr.ownsRow w.heap.size 5 1 (.slice (some ⟨g1, 0, none⟩) (n + 1 + k + 8) cap1) ((n + 72) / 64 * 64) ((padL xs ((n + 72) / 64 * 64)).map u8v)) := by
            show World.ownsRow _ _ _ _ _ _ _
            rw [← hfin, ← HQ.out]
            exact hown
          have BF := Lib.hid hbl
          clear hown hbl hrows hfin
          go_wp2
          go_ret
          exact ⟨_, rfl, OF.out, BF.out⟩
theorem firstW_in : firstW.In := ⟨by unfold InW; decide, by unfold InW; decide, by unfold InW; decide, by unfold InW; decide, by unfold InW; decide, by unfold InW; decide, by unfold InW; decide, by unfold InW; decide⟩
theorem sumK_in (p : List Int) : ∀ k, (sumK p k).In
  | 0 => firstW_in
  | _ + 1 => S8.In.add _ _
theorem own_byte {base n g cap : Nat} {l : List Int} {w : World} (h : w.ownsRow base 5 1 (.slice (some ⟨g, 0, none⟩) n cap) n (l.map u8v)) (i : Nat) (hi : i < n) : w.cell? ⟨g, i, none⟩ = some (.int .u8 (l.getD i 0)) := by
  have hl : l.length = n := by have := h.1; simpa using this
  have := h.cells (g := g) rfl i (u8v (l.getD i 0)) (by simp [List.getD, List.getElem?_eq_getElem (by omega : i < l.length)])
  rw [Addr.add_mid, Nat.zero_add] at this
  exact this
set_option maxHeartbeats 4000000 in
set_option maxRecDepth 100000 in
theorem rsum_any (A : Option Addr) (n c : Nat) (xs : List Int) (w : World) (hl : xs.length = n) (hn : n ≤ 70368744177) (hx : Bytes w w.heap.size A xs) (hr : ∀ x ∈ xs, 0 ≤ x ∧ x ≤ 255) :
    Calls Tryd.prog 62 #[.slice A n c] w fun e w' => e = .returned (.agg (arrB 32 (sumL xs))) ∧ Below w.heap.size w w' := by
  have HL := Lib.hid hl
  have hsum : Hid (sumL xs = idPre (sumK (padL xs ((n + 72) / 64 * 64)) ((n + 72) / 64)) 8) := by show _ = _; rw [← hl]; rfl
  have HP := Lib.hid (padL_range xs ((n + 72) / 64 * 64) (by omega) hr)
  have hb0 : Below w.heap.size w (w.alloc (.cells (arrB 32 []) 40)) := (Below.refl _ _).alloc (Nat.le_refl _) _
  have HX := Lib.hid (hx.below hb0)
  clear hx hr hl
  go_enter Tryd.func62, Tryd.ntmps62
  go_wp2_with fail
  refine (rpad_any A n c xs _ HL.out hn (fun h => ?_)).mono ?_
  · obtain ⟨ad, e, hlt, hc⟩ := HX.out h
    exact ⟨ad, e, by simp; omega, hc⟩
  rintro e w1 ⟨vp, rfl, hown, b1⟩
  rw [World.size_alloc] at hown b1
  have q1 : (n + 72) / 64 ≤ 1099511629 := by omega
  have q0 : 0 < (n + 72) / 64 := by omega
  generalize padL xs ((n + 72) / 64 * 64) = pp at *
  generalize (n + 72) / 64 = q at *
  obtain ⟨gp, cp, rfl⟩ := own_len hown (by omega)
  have S1 : Sums w (.slice (some ⟨gp, 0, none⟩) (q * 64) cp) (q * 64) pp w1 := ⟨hb0.trans (b1.mono (by omega)), (Row.new w 40 _).below b1 (by omega), hown⟩
  clear hown b1 hb0 HX
  go_wp2_with fail
  refine (first_any w1).mono ?_
  rintro e w2 ⟨rfl, rf, b2⟩
  have S2 := Lib.hid (S1.below b2)
  have z1 := S1.z.lt
  have V2 : Hid (V8 (w.heap.size + 1) (.slice (some ⟨w1.heap.size, 0, none⟩) 8 8) (sumK pp 0) w2) := ⟨w1.heap.size, 8, firstW.cells, rfl, by omega, rf, fun i hi => S8.cells_get firstW i hi⟩
  clear S1 rf b2
  go_wp2_with fail
  go_loopw [4, 5] (fun v i u => ∃ k : Nat, k ≤ q ∧ i = .int .i64 (64 * (k : Int)) ∧ Hid (Sums w (.slice (some ⟨gp, 0, none⟩) (q * 64) cp) (q * 64) pp u ∧ V8 (w.heap.size + 1) v (sumK pp k) u)) (fun _ i _ => q * 64 - (intOf i).toNat)
  case atStart => exact ⟨0, by omega, rfl, S2.out, V2.out⟩
  case round =>
    clear S2 V2
    obtain ⟨k, hk, rfl, hrows⟩ := hrel
    obtain ⟨hS, hV⟩ := hrows.out
    by_cases hlt : k < q
    · obtain ⟨g, cap, cur, rfl, hg, hr, hc⟩ := hV
      have hcp : q * 64 ≤ cp := by
        rcases hS.p.2 with ⟨e, _⟩ | ⟨_, _, _, e, _, _, h1, _⟩
        · cases e
        · injection e with _ _ e3
          omega
      have hcm : cp ≤ maxLen := by
        rcases hS.p.2 with ⟨e, _⟩ | ⟨_, _, _, e, _, _, _, h1, _⟩
        · cases e
        · injection e with _ _ e3
          omega
      unfold maxLen at hcm
      have hgp : gp < wr.heap.size := by
        rcases hS.p.2 with ⟨e, _⟩ | ⟨_, _, _, e, _, h1, _⟩
        · cases e
        · injection e with e1 _ _
          have := Row.lt (t := 5) h1
          injection e1 with e1
          injection e1 with e1 _ _
          omega
      have SH := Lib.hid hS
      have RH := Lib.hid hr
      have CH := Lib.hid hc
      clear hS hr hc hrows
      have a1 : 64 * (k : Int) < (q : Int) * 64 := by omega
      have a2 : 64 * (k : Int) + 64 ≤ (q : Int) * 64 := by omega
      have a3 : ¬ cp = 64 * k := by omega
      go_wp2_with fail
      refine (rwords_any gp (64 * k) 64 (cp - 64 * k) (pp.drop (64 * k)) wr (Nat.le_refl _) hgp (fun i hi => ?_) (getD_range _ (fun x hx => HP.out x (List.mem_of_mem_drop hx)))).mono ?_
      · rw [own_byte SH.out.p (64 * k + i) (by omega)]
        simp [List.getD, List.getElem?_drop]
      rintro e w3 ⟨vw, rfl, how, b3⟩
      have S3 := Lib.hid (SH.out.below b3)
      have R3 := Lib.hid (RH.out.below b3 RH.out.lt)
      have W3 : ∃ gw cw, vw = .slice (some ⟨gw, 0, none⟩) 64 cw ∧ gw < w3.heap.size := by
        rcases how.2 with ⟨_, h0⟩ | ⟨gw, cw, _, e, _, h1, _⟩
        · omega
        · exact ⟨gw, cw, e, Row.lt (t := 87) h1⟩
      obtain ⟨gw, cw, rfl, hgw⟩ := W3
      have OW := Lib.hid how
      clear how b3 SH RH
      go_wp2_with fail
      refine (rrounds_any (sumK pp k) cur g cap gw cw (moreL (pp.drop (64 * k)) 48) w3 (sumK_in pp k) R3.out CH.out (fun i hi => own_cell OW.out i hi) hgw).mono ?_
      rintro e w4 ⟨v4, rfl, hV4, b4⟩
      have S4 := Lib.hid (S3.out.below b4)
      have z3 := S3.out.z.lt
      have V4 : Hid (V8 (w.heap.size + 1) v4 (sumK pp (k + 1)) w4) := hV4.mono (by omega)
      clear hV4 b4 S3 R3 OW CH
      go_wp2
      go_roundw
      case rel => exact ⟨k + 1, by omega, by go_num, S4.out, V4.out⟩
      case measure => simp [intOf]; omega
    · obtain rfl : k = q := by omega
      obtain ⟨g, cap, cur, rfl, hg, hr, hc⟩ := hV
      have hfin : Hid (sumL xs = idPre (sumK pp k) 8) := hsum
      have hin := Lib.hid (sumK_in pp k)
      generalize sumK pp k = st at *
      have hSz := hS.z
      have hSb := hS.b
      have zlt := hSz.lt
      have glt := hr.lt
      have e0 : Row (wr.alloc (.cells (arrB 32 []) 40)) w.heap.size 40 (arrB 32 []) := hSz.alloc _
      have e1 : Row (wr.alloc (.cells (arrB 32 []) 40)) g 87 cur := hr.alloc _
      have e2 : Row (wr.alloc (.cells (arrB 32 []) 40)) wr.heap.size 40 (arrB 32 []) := Row.new wr 40 _
      have e3 : Below w.heap.size w (wr.alloc (.cells (arrB 32 []) 40)) := hSb.alloc hSb.size _
      have E0 := Lib.hid e0
      have E1 := Lib.hid e1
      have E2 := Lib.hid e2
      have E3 := Lib.hid e3
      have CH := Lib.hid hc
      clear hSz hSb hr hS hrows hc e0 e1 e2 e3
      go_wp2_with fail
      generalize wr.heap.size = go at *
      go_loopw [7] (fun i u => ∃ j : Nat, j ≤ 8 ∧ i = .int .i64 j ∧ Hid (Row u w.heap.size 40 (arrB 32 []) ∧ Row u g 87 cur ∧ Row u go 40 (arrB 32 (idPre st j)) ∧ Below w.heap.size w u)) (fun i _ => 8 - (intOf i).toNat)
      case atStart => exact ⟨0, by omega, rfl, E0.out, E1.out, E2.out, E3.out⟩
      case round =>
        clear E0 E1 E2 E3
        obtain ⟨j, hj, rfl, hrows⟩ := hrel
        obtain ⟨r0, r1, r2, hbl⟩ := hrows.out
        by_cases hlt : j < 8
        · have ch : wr.cell? ⟨g, j, none⟩ = some (.int .u32 (st.get j)) := (r1.cell j).trans (CH.out j hlt)
          have e0 := (r2.cell (4 * j)).trans (arrB_get 32 _ (4 * j) (by rw [idPre_len]; omega) (by omega))
          have e1 := (r2.cell (4 * j + 1)).trans (arrB_get 32 _ (4 * j + 1) (by rw [idPre_len]; omega) (by omega))
          have e2 := (r2.cell (4 * j + 2)).trans (arrB_get 32 _ (4 * j + 2) (by rw [idPre_len]; omega) (by omega))
          have e3 := (r2.cell (4 * j + 3)).trans (arrB_get 32 _ (4 * j + 3) (by rw [idPre_len]; omega) (by omega))
          have f0 := r2.frozen (4 * j)
          have f1 := r2.frozen (4 * j + 1)
          have f2 := r2.frozen (4 * j + 2)
          have f3 := r2.frozen (4 * j + 3)
          have HPU := Lib.hid (idPre_put st j hlt)
          obtain ⟨i0, i1⟩ := hin.out.get j hlt
          have R0 := Lib.hid r0
          have R1 := Lib.hid r1
          have R2 := Lib.hid r2
          have BL := Lib.hid hbl
          have hne : ¬ g = go := by omega
          have hne2 : ¬ go = g := by omega
          clear r0 r1 r2 hbl hrows
          generalize st.get j = y at *
          have hyd : Hid (y / 16777216 % 256 = y / 16777216) := by show _ = _; omega
          go_wp2
          go_roundw
          case rel =>
            refine ⟨j + 1, by omega, by go_num, (((R0.out.far (by simp; omega) _).far (by simp; omega) _).far (by simp; omega) _).far (by simp; omega) _, (((R1.out.far (by simp; omega) _).far (by simp; omega) _).far (by simp; omega) _).far (by simp; omega) _, ?_, (((BL.out.setCell (by simp; omega) _).setCell (by simp; omega) _).setCell (by simp; omega) _).setCell (by simp; omega) _⟩
            rw [← HPU.out, hyd.out]
            exact (((R2.out.put _ _).put _ _).put _ _).put _ _
          case measure => simp [intOf]; omega
        · obtain rfl : j = 8 := by omega
          have hsz : Hid ((arrB 32 (idPre st 8)).size = 32 ∧ (arrB 32 []).size = (arrB 32 (idPre st 8)).size ∧ (arrB 32 (idPre st 8)).all (·.oneCell') = true) :=
            Lib.hid ⟨arrB_size _ _ (by rw [idPre_len]; omega), by rw [arrB_size 32 (idPre st 8) (by rw [idPre_len]; omega), arrB_size 32 [] (by simp)], arrB_one _ _⟩
          have HF : Hid (arrB 32 (sumL xs) = arrB 32 (idPre st 8)) := by show _ = _; rw [hfin.out]
          generalize arrB 32 (idPre st 8) = cs at *
          generalize arrB 32 [] = zs at *
          have R0 : Hid (wr.heap[w.heap.size]? = some (.cells zs 40 (0, 0))) := r0
          have R2 : Hid (wr.heap[go]? = some (.cells cs 40 (0, 0))) := r2
          have BL := Lib.hid hbl
          clear r0 r1 r2 hrows hbl
          go_wp2_with (first
            | ((with_reducible refine wpList_load_row (o := ⟨some 70, _, _, _, _, _⟩) ?_ 40 (.tmp 6) ?_ go ?_ 40 cs (0, 0) _ R2.out Tryd.underlying40 ?_ (info26 cs hsz.out.1) ?_); (rfl); (rfl); (rfl); (rfl))
            | ((with_reducible refine wpList_store_row (o := ⟨none, .store 40 _ _, _, _, _, _⟩) ?_ 40 (.tmp 2) (.tmp 70) ?_ w.heap.size cs ?_ ?_ 40 zs R0.out (info26 cs hsz.out.1) hsz.out.2.1 hsz.out.2.2 ?_); (rfl); (rfl); (rfl); (rfl))
            | ((with_reducible refine bodyPost_ret (v := .agg cs) ?_ ?_ ?_); (exact results_cell_row (p := 2) (ty := 40) Tryd.results62 _ _ w.heap.size 40 cs (0, 0) _ rfl (setRow_heap _ _ zs cs 40 (0, 0) R0.out) Tryd.underlying40 rfl (info26 cs hsz.out.1)); (rfl)))
          exact ⟨by rw [HF.out], below_setRow BL.out (Nat.le_refl _) _⟩
set_option maxRecDepth 20000 in
set_option maxHeartbeats 1000000 in
theorem rsof_any (A : Option Addr) (n c : Nat) (xss : List (List Int)) (w : World) (hl : xss.length = n) (hx : Parts w w.heap.size A xss) (hn : n ≤ 9223372036854775807) (hs : xss.flatten.length ≤ 70368744177) :
    Calls Tryd.prog 46 #[.slice A n c] w fun e w' => e = .returned (.agg (arrB 32 (sumL xss.flatten))) ∧ Below w.heap.size w w' := by
  have HL := Lib.hid hl
  have HX := Lib.hid hx
  clear hl hx
  go_enter Tryd.func46, Tryd.ntmps46
  go_wp2_with fail
  go_loopw [3, 4] (fun v i u => ∃ k : Nat, k ≤ n ∧ i = .int .i64 k ∧ Below w.heap.size w u ∧ Hid (Row u w.heap.size 40 (arrB 32 []) ∧ u.ownsRow (w.heap.size + 1) 5 1 v (xss.take k).flatten.length ((xss.take k).flatten.map u8v))) (fun _ i _ => n - (intOf i).toNat)
  case atStart => exact ⟨0, by omega, rfl, by go_grown, Row.new w 40 _, World.ownsRow_nil _ _ _ _⟩
  case round =>
    obtain ⟨k, hk, rfl, hbl, hrows⟩ := hrel
    obtain ⟨r0, hown⟩ := hrows.out
    have s0 := r0.lt
    by_cases hlt : k < n
    · have hg := List.getElem?_eq_getElem (by rw [HL.out]; exact hlt : k < xss.length)
      have hst := Lib.hid (flat_step xss k _ hg)
      obtain ⟨b, o, a, c1, rfl, hb, hc, hy, hr⟩ := HX.out k _ hg
      have hle : (xss.take k).flatten.length + (xss[k]'(by rw [HL.out]; exact hlt)).length ≤ xss.flatten.length := by
        have e := congrArg List.length hst.out
        rw [List.length_append] at e
        have h2 : (xss.take (k + 1)).flatten.length ≤ xss.flatten.length := by
          conv => rhs; rw [← List.take_append_drop (k + 1) xss, List.flatten_append, List.length_append]
          omega
        omega
      generalize xss[k]'(by rw [HL.out]; exact hlt) = ys at *
      obtain ⟨v', w', hrun, hown', hgr⟩ := append_bytes _ _ _ _ wr hown a ys.length c1 w.heap.size ys rfl (hy.below hbl) (by omega) (by omega)
      have hcell := (hbl.cell (p := ⟨b, o + k, none⟩) hb).trans hc
      have hb2 := below_of_grown (B := w.heap.size + 1) hgr (fun g hg => (hown.lt g hg).1) (by omega)
      have R0 := Lib.hid (r0.below hb2 (by omega))
      have BB := Lib.hid (hbl.trans (hb2.mono (by omega)))
      have OO := Lib.hid hown'
      clear r0 hown hrows hg hc hy hr hgr hb2 hown' hle
      have hk2 : (k : Int) < (n : Int) := by omega
      have HRUN := Lib.hid hrun
      clear hrun
      go_wp2_with (at_builtin; (with_reducible refine wpList_append_run (o := ⟨some 16, _, _, _, _, _⟩) ?_ (.tmp 11) (.tmp 15) ?_ ?_ ?_ ?_ HRUN.out ?_); (rfl); (rfl); (rfl); (rfl); (rfl))
      go_roundw
      case rel =>
        refine ⟨k + 1, by omega, by go_num, BB.out, R0.out, ?_⟩
        rw [hst.out, List.length_append, List.map_append]
        exact OO.out
      case measure => simp [intOf]; omega
    · obtain rfl : k = n := by omega
      have hT : xss.take k = xss := List.take_of_length_le (by rw [HL.out]; exact Nat.le_refl _)
      rw [hT] at hown
      obtain ⟨A1, c1, rfl⟩ := own_form hown
      have hr : ∀ x ∈ xss.flatten, 0 ≤ x ∧ x ≤ 255 := by
        intro x hx
        obtain ⟨l, hl, hxl⟩ := List.mem_flatten.1 hx
        obtain ⟨j, hj, rfl⟩ := List.getElem_of_mem hl
        obtain ⟨_, _, _, _, _, _, _, _, hr⟩ := HX.out j _ (List.getElem?_eq_getElem hj)
        exact hr x hxl
      have hby := own_bytes hown
      have R0 := Lib.hid r0
      clear hown r0 hrows hT
      have HRR := Lib.hid hr
      have HBY := Lib.hid hby
      clear hr hby
      generalize hFL : xss.flatten = fl at *
      have HFL := Lib.hid hFL
      clear hFL
      obtain ⟨q, hq⟩ : ∃ q, fl.length = q := ⟨_, rfl⟩
      rw [hq]
      have HQ := Lib.hid hq
      have hs2 : q ≤ 70368744177 := by omega
      clear hq
      go_wp2_with fail
      refine (rsum_any A1 q c1 fl wr HQ.out hs2 HBY.out HRR.out).mono ?_
      rintro e w3 ⟨rfl, hb3⟩
      have hsz : Hid ((arrB 32 (sumL fl)).size = 32 ∧ (arrB 32 []).size = (arrB 32 (sumL fl)).size ∧ (arrB 32 (sumL fl)).all (·.oneCell') = true) :=
        Lib.hid ⟨arrB_size _ _ (by rw [sumL_len]; omega), by rw [arrB_size 32 (sumL fl) (by rw [sumL_len]; omega), arrB_size 32 [] (by simp)], arrB_one _ _⟩
      have Q0 : Hid (w3.heap[w.heap.size]? = some (.cells (arrB 32 []) 40 (0, 0))) := R0.out.below hb3 R0.out.lt
      have bl3 : Below w.heap.size w w3 := hbl.trans (hb3.mono hbl.size)
      clear hb3 R0
      generalize hE : arrB 32 (sumL fl) = cs at *
      have HE := Lib.hid hE
      clear hE
      generalize arrB 32 [] = zs at *
      go_wp2_with (first
        | ((with_reducible refine wpList_store_row (o := ⟨none, .store 40 _ _, _, _, _, _⟩) ?_ 40 (.tmp 2) (.tmp 18) ?_ w.heap.size cs ?_ ?_ 40 zs Q0.out (info26 cs hsz.out.1) hsz.out.2.1 hsz.out.2.2 ?_); (rfl); (rfl); (rfl); (rfl))
        | ((with_reducible refine bodyPost_ret (v := .agg cs) ?_ ?_ ?_); (exact results_cell_row (p := 2) (ty := 40) Tryd.results46 _ _ w.heap.size 40 cs (0, 0) _ rfl (setRow_heap _ _ zs cs 40 (0, 0) Q0.out) Tryd.underlying40 rfl (info26 cs hsz.out.1)); (rfl)))
      exact ⟨by rw [HFL.out, HE.out], below_setRow bl3 (Nat.le_refl _) _⟩
section
variable {st e : TypeId} {z bytes : Nat} {zero : Value}
/-- an append to nothing makes memory -/
theorem FAt_appX (T : ElemT st e z bytes zero) {u : World} {m c : Nat} {ys : List Value} {ad : Addr} {a : Act} {dst : Option Tmp} {x : Operand} {pos : String} {after : Array Edge} {gd : Option (Nat × Bool)}
    (hy : ys.length = m * z) (h1 : ∀ u ∈ ys, u.oneCell' = true) (hc : SrcAt u ad ys) (hs : m ≤ 2000000) (hx : a.eval x = .slice (some ad) m c) :
    FAt Tryd.prog ⟨dst, .call { callee := .builtin .append, args := #[.const (.slice none 0 0), x], argTypes := #[st, st] }, st, pos, after, gd⟩ a (FreshR e z m ys) u := by
  have he : a.eval (.const (.slice none 0 0)) = .slice none 0 0 := rfl
  obtain ⟨v', u', hrun, hown, hgr, _⟩ := appendR T (c := c) (World.ownsRow_nil u u.heap.size e z) hy hc h1 (by omega) (Nat.le_refl _)
  rw [Nat.zero_add, List.nil_append] at hown
  obtain ⟨N, hF', hN'⟩ := fresh_of_own hown
  unfold FAt execOp
  simp only [resolve, invoke, builtin, Sem.run_bind, Sem.run_pure, Result.andThen_ok, List.map_toArray, List.map_cons, List.map_nil, he, hx, hrun]
  exact ⟨below_of_grown hgr (fun g hg => by cases hg) (Nat.le_refl _), N, hF', fun y hy => ⟨(hN' y hy).1, (hN' y hy).2.1⟩⟩
end
section
variable {st e : TypeId} {z bytes : Nat} {zero : Value}
/-- an append to nothing out of a slice that came in -/
theorem FAt_appC (T : ElemT st e z bytes zero) {u : World} {B m c : Nat} {A : Option Addr} {ys : List Value} {a : Act} {dst : Option Tmp} {x : Operand} {pos : String} {after : Array Edge} {gd : Option (Nat × Bool)}
    (hy : ys.length = m * z) (h1 : ∀ u ∈ ys, u.oneCell' = true) (hc : CellsIn u B A ys) (hs : m ≤ 2000000) (hx : a.eval x = .slice A m c) :
    FAt Tryd.prog ⟨dst, .call { callee := .builtin .append, args := #[.const (.slice none 0 0), x], argTypes := #[st, st] }, st, pos, after, gd⟩ a (FreshR e z m ys) u := by
  cases A with
  | none =>
    have h0 : ys = [] := by
      refine List.eq_nil_of_length_eq_zero (Nat.eq_zero_of_not_pos fun hp => ?_)
      obtain ⟨ad, e, _⟩ := hc hp
      cases e
    subst h0
    have hm : m = 0 := by
      rcases Nat.eq_zero_or_pos m with h | h
      · exact h
      · have := Nat.mul_pos h T.pos
        simp at hy
        omega
    subst hm
    have he : a.eval (.const (.slice none 0 0)) = .slice none 0 0 := rfl
    cases hi : Tryd.prog.info? e with
    | none => have := T.info; rw [hi] at this; cases this
    | some i =>
      have hrun : (Builtin.append_ #[st, st] st #[.slice none 0 0, .slice none 0 c]).run Tryd.prog u = .ok (.slice none 0 0) u := by
        simp [Builtin.append_, run_underlying T.und, sizeOf, typeInfo, hi, Builtin.lenOf, Builtin.firstCells]
      unfold FAt execOp
      simp only [resolve, invoke, builtin, Sem.run_bind, Sem.run_pure, Result.andThen_ok, List.map_toArray, List.map_cons, List.map_nil, he, hx, hrun]
      exact ⟨Below.refl _ _, [], .inr ⟨rfl, rfl, rfl, rfl⟩, fun y hy => by cases hy⟩
  | some ad =>
    refine FAt_appX T (c := c) hy h1 (fun j v hv => ?_) hs hx
    have hp : 0 < ys.length := by
      rcases Nat.eq_zero_or_pos ys.length with h0 | h0
      · rw [List.eq_nil_of_length_eq_zero h0] at hv
        simp at hv
      · exact h0
    obtain ⟨ad', e, _, hcc⟩ := hc hp
    obtain rfl := Option.some.inj e
    exact hcc j v hv
/-- an append to one's own out of a slice that came in -/
theorem appC_op (T : ElemT st e z bytes zero) {w0 u : World} {M : Boxes} (M0 : Boxes) {N : Boxes} {n m c B : Nat} {xs : List Value} {v : Value} {ys : List Value} {A : Option Addr} {a : Act} {dst : Option Tmp} {y x : Operand} {pos : String} {after : Array Edge} {gd : Option (Nat × Bool)}
    (hu : EnvX w0 u M) (hl : xs.length = n * z) (hy : ys.length = m * z) (h1 : ∀ u ∈ ys, u.oneCell' = true) (hF : FreshR e z n xs v N) (hN : ∀ y ∈ N, y ∈ M ∧ w0.heap.size ≤ y.1) (hc : CellsIn u B A ys) (hM0 : ∀ z ∈ M0, z ∈ M ∧ ∀ y ∈ N, z.1 ≠ y.1) (hs : n + m ≤ 2000000)
    (hyv : a.eval y = v) (hx : a.eval x = .slice A m c) :
    ∃ v' u' M', (execOp a.eval ⟨dst, .call { callee := .builtin .append, args := #[y, x], argTypes := #[st, st] }, st, pos, after, gd⟩).run Tryd.prog u = .ok (.value v') u' ∧ EnvX w0 u' M' ∧ GrownR w0 e z (n + m) (xs ++ ys) M0 v' M' := by
  cases A with
  | none =>
    have h0 : ys = [] := by
      refine List.eq_nil_of_length_eq_zero (Nat.eq_zero_of_not_pos fun hp => ?_)
      obtain ⟨ad, e, _⟩ := hc hp
      cases e
    subst h0
    have hm : m = 0 := by
      rcases Nat.eq_zero_or_pos m with h | h
      · exact h
      · have := Nat.mul_pos h T.pos
        simp at hy
        omega
    subst hm
    obtain ⟨A1, c1, rfl, k1, k2⟩ := FreshR.formC hF
    cases hi : Tryd.prog.info? e with
    | none => have := T.info; rw [hi] at this; cases this
    | some i =>
      have hrun : (Builtin.append_ #[st, st] st #[.slice A1 n c1, .slice none 0 c]).run Tryd.prog u = .ok (.slice A1 n c1) u := by
        cases A1 <;> simp [Builtin.append_, run_underlying T.und, sizeOf, typeInfo, hi, Builtin.lenOf, Builtin.firstCells, k1, storeCells]
      refine ⟨.slice A1 n c1, u, N ++ M0, ?_, hu.sub (fun q hq => (List.mem_append.1 hq).elim (fun h => (hN q h).1) (fun h => (hM0 q h).1)), N, rfl, ?_, fun q hq => ⟨(hN q hq).2, fun r hr => (hM0 r hr).2 q hq⟩⟩
      · unfold execOp
        simp only [resolve, invoke, builtin, Sem.run_bind, Sem.run_pure, Result.andThen_ok, List.map_toArray, List.map_cons, List.map_nil, hyv, hx, hrun]
      · rw [List.append_nil, Nat.add_zero]
        exact hF
  | some ad =>
    refine appX_op T M0 (c := c) (ad := ad) hu hl hy h1 hF hN (fun j v hv => ?_) hM0 hs hyv hx
    have hp : 0 < ys.length := by
      rcases Nat.eq_zero_or_pos ys.length with h0 | h0
      · rw [List.eq_nil_of_length_eq_zero h0] at hv
        simp at hv
      · exact h0
    obtain ⟨ad', e, _, hcc⟩ := hc hp
    obtain rfl := Option.some.inj e
    exact hcc j v hv
end
end Go.Proofs.YtabhhbdbkeeblaaDoor
