/- Numbers, blobs and rows as lists of bytes: plain facts. -/
import Derived.WalkKit
namespace Go.Proofs.Ythgjfmdbipmhoaa

/-- a byte's number -/
def isB (l : List Int) : Prop := ∀ x ∈ l, 0 ≤ x ∧ x ≤ 255
theorem isB_nil : isB [] := fun _ h => by cases h
theorem isB_append {a b : List Int} : isB (a ++ b) ↔ isB a ∧ isB b := by
  unfold isB
  constructor
  · intro h
    exact ⟨fun x hx => h x (List.mem_append_left _ hx), fun x hx => h x (List.mem_append_right _ hx)⟩
  · rintro ⟨h1, h2⟩ x hx
    rcases List.mem_append.1 hx with h | h
    · exact h1 x h
    · exact h2 x h
theorem isB_take {a : List Int} (h : isB a) (k : Nat) : isB (a.take k) := fun x hx => h x (List.mem_of_mem_take hx)
theorem isB_drop {a : List Int} (h : isB a) (k : Nat) : isB (a.drop k) := fun x hx => h x (List.mem_of_mem_drop hx)
/-- the lowest k bytes of a number, the highest first -/
def putL (n : Nat) : Nat → List Int
  | 0 => []
  | k + 1 => putL (n / 256) k ++ [((n % 256 : Nat) : Int)]
/-- the number of bytes -/
def getL (l : List Int) : Nat := l.foldl (fun a x => 256 * a + x.toNat) 0
theorem putL_len (n k : Nat) : (putL n k).length = k := by
  induction k generalizing n with
  | zero => rfl
  | succ k ih => unfold putL; rw [List.length_append, ih]; rfl
theorem putL_byte (n k : Nat) : isB (putL n k) := by
  induction k generalizing n with
  | zero => exact isB_nil
  | succ k ih =>
    unfold putL
    refine isB_append.2 ⟨ih _, fun x hx => ?_⟩
    cases List.mem_singleton.1 hx
    omega
theorem getL_snoc (l : List Int) (x : Int) : getL (l ++ [x]) = 256 * getL l + x.toNat := by
  unfold getL
  rw [List.foldl_append]
  rfl
theorem getL_putL (n k : Nat) : getL (putL n k) = n % 256 ^ k := by
  induction k generalizing n with
  | zero => simp [putL, getL, Nat.mod_one]
  | succ k ih =>
    unfold putL
    rw [getL_snoc, ih, Int.toNat_natCast, Nat.pow_succ, Nat.mul_comm (256 ^ k) 256, Nat.mod_mul]
    omega
theorem snoc_ind {Q : List Int → Prop} (h0 : Q []) (h1 : ∀ l x, Q l → Q (l ++ [x])) (l : List Int) : Q l := by
  have h : ∀ l : List Int, Q l.reverse := fun l => by
    induction l with
    | nil => exact h0
    | cons x l ih => rw [List.reverse_cons]; exact h1 _ _ ih
  have h2 := h l.reverse
  rwa [List.reverse_reverse] at h2
theorem getL_lt (l : List Int) (h : isB l) : getL l < 256 ^ l.length := by
  revert h
  refine snoc_ind (Q := fun l => isB l → getL l < 256 ^ l.length) (fun _ => by decide) (fun l x ih h => ?_) l
  obtain ⟨h1, h2⟩ := isB_append.1 h
  have h3 := ih h1
  have h4 := h2 x (List.mem_singleton.2 rfl)
  rw [getL_snoc, List.length_append, List.length_singleton, Nat.pow_succ]
  omega
theorem putL_getL (l : List Int) (h : isB l) : putL (getL l) l.length = l := by
  revert h
  refine snoc_ind (Q := fun l => isB l → putL (getL l) l.length = l) (fun _ => rfl) (fun l x ih h => ?_) l
  obtain ⟨h1, h2⟩ := isB_append.1 h
  have h4 := h2 x (List.mem_singleton.2 rfl)
  rw [getL_snoc, List.length_append, List.length_singleton]
  show putL ((256 * getL l + x.toNat) / 256) l.length ++ [(((256 * getL l + x.toNat) % 256 : Nat) : Int)] = l ++ [x]
  rw [show (256 * getL l + x.toNat) / 256 = getL l by omega, ih h1, show (((256 * getL l + x.toNat) % 256 : Nat) : Int) = x by omega]
theorem putL_inj {n m k : Nat} (hn : n < 256 ^ k) (hm : m < 256 ^ k) (h : putL n k = putL m k) : n = m := by
  have := congrArg getL h
  rw [getL_putL, getL_putL, Nat.mod_eq_of_lt hn, Nat.mod_eq_of_lt hm] at this
  exact this
/-- bytes with how many they are -/
def blobL (l : List Int) : List Int := putL l.length 2 ++ l
theorem blobL_len (l : List Int) : (blobL l).length = 2 + l.length := by unfold blobL; rw [List.length_append, putL_len]
theorem blobL_byte {l : List Int} (h : isB l) : isB (blobL l) := isB_append.2 ⟨putL_byte _ _, h⟩
/-- what is cut off at a place, and where that ends -/
def cutL (b : List Int) (at_ : Nat) : Option (List Int × Nat) :=
  if at_ + 2 ≤ b.length then
    let n := getL ((b.drop at_).take 2)
    if at_ + 2 + n ≤ b.length then some ((b.drop (at_ + 2)).take n, at_ + 2 + n) else none
  else none
theorem cutL_spec {b : List Int} {at_ to : Nat} {x : List Int} (h : cutL b at_ = some (x, to)) : to = at_ + 2 + x.length ∧ to ≤ b.length ∧ x = (b.drop (at_ + 2)).take x.length ∧ x.length = getL ((b.drop at_).take 2) := by
  unfold cutL at h
  split at h
  · rename_i h1
    simp only at h
    split at h
    · rename_i h2
      simp only [Option.some.injEq, Prod.mk.injEq] at h
      obtain ⟨rfl, rfl⟩ := h
      have hl : ((b.drop (at_ + 2)).take (getL ((b.drop at_).take 2))).length = getL ((b.drop at_).take 2) := by
        rw [List.length_take, List.length_drop]; omega
      exact ⟨by rw [hl], by omega, by rw [hl], hl⟩
    · cases h
  · cases h
/-- what is cut off is a blob there -/
theorem cutL_blob {b : List Int} (hb : isB b) {at_ to : Nat} {x : List Int} (h : cutL b at_ = some (x, to)) : (b.drop at_).take (to - at_) = blobL x ∧ x.length ≤ 65535 := by
  obtain ⟨h1, h2, h3, h4⟩ := cutL_spec h
  have h5 := getL_lt ((b.drop at_).take 2) (isB_take (isB_drop hb _) _)
  have h6 : ((b.drop at_).take 2).length = 2 := by rw [List.length_take, List.length_drop]; omega
  rw [h6] at h5
  have h7 := putL_getL ((b.drop at_).take 2) (isB_take (isB_drop hb _) _)
  rw [h6, ← h4] at h7
  refine ⟨?_, by omega⟩
  unfold blobL
  rw [h7, show to - at_ = 2 + x.length by omega, List.take_add, List.drop_drop]
  congr 1
  exact h3.symm
/-- a blob that stands there is cut off -/
theorem cutL_put (a x c : List Int) (hx : x.length ≤ 65535) : cutL (a ++ (blobL x ++ c)) a.length = some (x, a.length + (2 + x.length)) := by
  unfold cutL
  have e1 : (a ++ (blobL x ++ c)).drop a.length = blobL x ++ c := by simp
  have e2 : (blobL x ++ c).take 2 = putL x.length 2 := by
    unfold blobL
    rw [List.append_assoc, List.take_append_of_le_length (by rw [putL_len]; omega), List.take_of_length_le (by rw [putL_len]; omega)]
  have e3 : getL (putL x.length 2) = x.length := by rw [getL_putL]; exact Nat.mod_eq_of_lt (by omega)
  have hl : (a ++ (blobL x ++ c)).length = a.length + (2 + x.length + c.length) := by simp [blobL_len]
  rw [if_pos (by rw [hl]; omega)]
  simp only [e1, e2, e3]
  rw [if_pos (by rw [hl]; omega)]
  have e4 : (a ++ (blobL x ++ c)).drop (a.length + 2) = x ++ c := by
    rw [← List.drop_drop, e1]
    unfold blobL
    rw [List.append_assoc, List.drop_append_of_le_length (by rw [putL_len]; omega), List.drop_of_length_le (by rw [putL_len]; omega)]
    rfl
  rw [e4, List.take_append_of_le_length (Nat.le_refl _), List.take_length]
  simp only [Option.some.injEq, Prod.mk.injEq, true_and]
  omega
/-- what is cut off of more, is cut off there too, as long as it lies ahead -/
theorem cutL_ahead {b c : List Int} {at_ to : Nat} {x : List Int} (h : cutL b at_ = some (x, to)) : cutL (b ++ c) at_ = some (x, to) := by
  obtain ⟨h1, h2, h3, h4⟩ := cutL_spec h
  unfold cutL
  have e1 : ((b ++ c).drop at_).take 2 = (b.drop at_).take 2 := by
    rw [List.drop_append_of_le_length (by omega), List.take_append_of_le_length (by rw [List.length_drop]; omega)]
  rw [if_pos (by rw [List.length_append]; omega)]
  simp only [e1, ← h4]
  rw [if_pos (by rw [List.length_append]; omega), List.drop_append_of_le_length (by omega), List.take_append_of_le_length (by rw [List.length_drop]; omega), ← h3, h1]
/-- rows, one behind the other -/
def flatL (l : List (List Int)) : List Int := (l.map blobL).flatten
def rowsL (l : List (List Int)) : List Int := putL l.length 1 ++ flatL l
theorem flatL_cons (x : List Int) (l : List (List Int)) : flatL (x :: l) = blobL x ++ flatL l := rfl
theorem rowsL_len (l : List (List Int)) : (rowsL l).length = 1 + (l.map (fun x => 2 + x.length)).sum := by
  unfold rowsL
  rw [List.length_append, putL_len]
  congr 1
  unfold flatL
  induction l with
  | nil => rfl
  | cons x l ih => simp only [List.map_cons, List.flatten_cons, List.length_append, List.sum_cons, blobL_len, ih]
/-- n rows from a place on, to the end -/
def splitG (b : List Int) : Nat → Nat → Option (List (List Int))
  | 0, at_ => if at_ = b.length then some [] else none
  | n + 1, at_ => match cutL b at_ with
    | none => none
    | some (x, to) => match splitG b n to with
      | none => none
      | some l => some (x :: l)
def splitL (b : List Int) : Option (List (List Int)) := match b with
  | [] => none
  | x :: _ => splitG b x.toNat 1
theorem splitG_succ (b : List Int) (n at_ : Nat) : splitG b (n + 1) at_ = match cutL b at_ with
    | none => none
    | some (x, to) => match splitG b n to with
      | none => none
      | some l => some (x :: l) := rfl
theorem splitG_spec {b : List Int} (hb : isB b) : ∀ (n at_ : Nat) (l : List (List Int)), splitG b n at_ = some l → l.length = n ∧ at_ ≤ b.length ∧ b.drop at_ = flatL l ∧ ∀ x ∈ l, x.length ≤ 65535
  | 0, at_, l, h => by
    unfold splitG at h
    split at h
    · rename_i h1
      cases h
      refine ⟨rfl, by omega, ?_, fun x hx => by cases hx⟩
      rw [List.drop_of_length_le (by omega)]
      rfl
    · cases h
  | n + 1, at_, l, h => by
    unfold splitG at h
    split at h
    · cases h
    · rename_i x to hc
      split at h
      · cases h
      · rename_i l' hl'
        cases h
        obtain ⟨a1, a2, a3, a4⟩ := splitG_spec hb n to l' hl'
        obtain ⟨h1, h2, _, _⟩ := cutL_spec hc
        obtain ⟨k1, k2⟩ := cutL_blob hb hc
        refine ⟨by rw [List.length_cons, a1], by omega, ?_, fun y hy => ?_⟩
        · rw [flatL_cons, ← k1, ← a3, show to = at_ + (to - at_) by omega, ← List.drop_drop, show at_ + (to - at_) - at_ = to - at_ by omega]
          exact (List.take_append_drop _ _).symm
        · rcases List.mem_cons.1 hy with e | e
          · rw [e]; exact k2
          · exact a4 y e
theorem splitG_put : ∀ (l : List (List Int)) (a : List Int), (∀ x ∈ l, x.length ≤ 65535) → splitG (a ++ flatL l) l.length a.length = some l
  | [], a, _ => by
    show (if a.length = (a ++ flatL []).length then some [] else none) = some []
    rw [if_pos (by simp [flatL])]
  | x :: l, a, h => by
    rw [List.length_cons, splitG_succ]
    have hx := h x (List.mem_cons_self ..)
    rw [flatL_cons]
    simp only [cutL_put a x (flatL l) hx]
    have h2 := splitG_put l (a ++ blobL x) (fun y hy => h y (List.mem_cons_of_mem _ hy))
    rw [List.append_assoc, List.length_append, blobL_len] at h2
    rw [h2]
theorem split_rows (l : List (List Int)) (hl : l.length ≤ 255) (h : ∀ x ∈ l, x.length ≤ 65535) : splitL (rowsL l) = some l := by
  have e : rowsL l = ((l.length % 256 : Nat) : Int) :: flatL l := rfl
  have h1 := splitG_put l [((l.length % 256 : Nat) : Int)] h
  rw [e]
  unfold splitL
  show splitG _ _ 1 = _
  rw [Int.toNat_natCast, Nat.mod_eq_of_lt (by omega)]
  rw [Nat.mod_eq_of_lt (by omega)] at h1
  exact h1
theorem rows_split {b : List Int} (hb : isB b) {l : List (List Int)} (h : splitL b = some l) : rowsL l = b ∧ l.length ≤ 255 ∧ ∀ x ∈ l, x.length ≤ 65535 := by
  unfold splitL at h
  cases b with
  | nil => cases h
  | cons x t =>
    obtain ⟨a1, a2, a3, a4⟩ := splitG_spec hb _ _ _ h
    have hx := hb x (List.mem_cons_self ..)
    refine ⟨?_, by omega, a4⟩
    unfold rowsL
    have e : putL l.length 1 = [x] := by
      show [((l.length % 256 : Nat) : Int)] = [x]
      rw [show ((l.length % 256 : Nat) : Int) = x by omega]
    rw [e, ← a3]
    rfl
/-- of what is split nothing longer is -/
theorem split_longer {b : List Int} (hb : isB b) {l : List (List Int)} (h : splitL b = some l) (c : List Int) (hc : isB c) (hne : c ≠ []) : splitL (b ++ c) = none := by
  cases hs : splitL (b ++ c) with
  | none => rfl
  | some m =>
    exfalso
    obtain ⟨a1, _, _⟩ := rows_split hb h
    obtain ⟨b1, b2, b3⟩ := rows_split (isB_append.2 ⟨hb, hc⟩) hs
    have hlm : l.length = m.length := by
      have e1 : ((l.length % 256 : Nat) : Int) :: flatL l = b := a1
      have e2 : ((m.length % 256 : Nat) : Int) :: flatL m = b ++ c := b1
      rw [← e1, List.cons_append] at e2
      have := (List.cons.inj e2).1
      obtain ⟨_, c2, _⟩ := rows_split hb h
      omega
    have key : ∀ (l m : List (List Int)) (c : List Int), l.length = m.length → flatL l ++ c = flatL m → (∀ x ∈ l, x.length ≤ 65535) → (∀ x ∈ m, x.length ≤ 65535) → c = [] := by
      intro l
      induction l with
      | nil =>
        intro m c hlen he _ _
        cases m with
        | nil => exact he
        | cons y m => cases hlen
      | cons x l ih =>
        intro m c hlen he hx hy
        cases m with
        | nil => cases hlen
        | cons y m =>
          rw [flatL_cons, flatL_cons, List.append_assoc] at he
          have hx1 := hx x (List.mem_cons_self ..)
          have hy1 := hy y (List.mem_cons_self ..)
          have t : putL x.length 2 = putL y.length 2 := by
            have := congrArg (List.take 2) he
            unfold blobL at this
            rw [List.append_assoc, List.append_assoc, List.take_append_of_le_length (by rw [putL_len]; omega), List.take_append_of_le_length (by rw [putL_len]; omega), List.take_of_length_le (by rw [putL_len]; omega), List.take_of_length_le (by rw [putL_len]; omega)] at this
            exact this
          have hn := putL_inj (k := 2) (by omega) (by omega) t
          have hsplit := List.append_inj he (by rw [blobL_len, blobL_len, hn])
          exact ih m c (by simpa using hlen) hsplit.2 (fun z hz => hx z (List.mem_cons_of_mem _ hz)) (fun z hz => hy z (List.mem_cons_of_mem _ hz))
    refine hne (key l m c hlm ?_ (rows_split hb h).2.2 b3)
    have e1 : ((l.length % 256 : Nat) : Int) :: flatL l = b := a1
    have e2 : ((m.length % 256 : Nat) : Int) :: flatL m = b ++ c := b1
    rw [← e1, List.cons_append] at e2
    exact (List.cons.inj e2).2.symm
theorem flatL_byte {l : List (List Int)} (h : ∀ x ∈ l, isB x) : isB (flatL l) := by
  induction l with
  | nil => exact isB_nil
  | cons x l ih =>
    rw [flatL_cons]
    exact isB_append.2 ⟨blobL_byte (h x (List.mem_cons_self ..)), ih (fun y hy => h y (List.mem_cons_of_mem _ hy))⟩
theorem rowsL_byte {l : List (List Int)} (h : ∀ x ∈ l, isB x) : isB (rowsL l) := isB_append.2 ⟨putL_byte _ _, flatL_byte h⟩
/-- no beginning of rows but all of them is some -/
theorem split_shorter {l : List (List Int)} (hl : l.length ≤ 255) (h : ∀ x ∈ l, x.length ≤ 65535) (hB : ∀ x ∈ l, isB x) {k : Nat} (hk : k < (rowsL l).length) : splitL ((rowsL l).take k) = none := by
  cases hs : splitL ((rowsL l).take k) with
  | none => rfl
  | some m =>
    exfalso
    have h1 := split_longer (isB_take (rowsL_byte hB) k) hs ((rowsL l).drop k) (isB_drop (rowsL_byte hB) k) (fun e => by have := congrArg List.length e; rw [List.length_drop, List.length_nil] at this; omega)
    rw [List.take_append_drop, split_rows l hl h] at h1
    cases h1
/-- rows are other bytes, if they are other rows -/
theorem rowsL_inj {l m : List (List Int)} (hl : l.length ≤ 255) (hm : m.length ≤ 255) (h1 : ∀ x ∈ l, x.length ≤ 65535) (h2 : ∀ x ∈ m, x.length ≤ 65535) (h : rowsL l = rowsL m) : l = m := by
  have := split_rows l hl h1
  rw [h, split_rows m hm h2] at this
  exact (Option.some.inj this).symm
end Go.Proofs.Ythgjfmdbipmhoaa
