/- The walk of the law TargetLevel. -/
import Derived.Test.YtdbkbaanppnabaaLawLevel3A
import Derived.Test.YtdbkbaanppnabaaLawLevel3B
import Derived.Test.YtdbkbaanppnabaaLawLevel3C
namespace Go.Proofs.Ytdbkbaanppnabaa
open Go.RowKit

theorem law_level (f g : Nat → Nat) (t s : Nat) (n : Int) (w : World) (hf : ∀ i, f i < 256) (hg : ∀ i, g i < 256) (ht : t < Big) (hs : s < Big) :
    Calls Try.prog 6 #[.agg (idF (fun i => (f i : Int))), .agg (idF (fun i => (g i : Int))), .agg (wcs t), .agg (wcs s), .int .i64 n] w fun e w' => e = .returned (.bool true) ∧ Below w.heap.size w w' := by
  have haB := numOf_lt f hf
  have hbB := numOf_lt g hg
  have hx := lvI_le (numOf f) t
  have s2 := cmpI_sgn (numOf g) (numOf f)
  have s3 := cmpI_sgn t s
  by_cases hn : 0 ≤ n
  · by_cases hn2 : n ≤ 31
    · obtain ⟨k, rfl⟩ := Int.eq_ofNat_of_zero_le hn
      have hi := lvI_iff (numOf f) t k (by omega)
      have hdB : t / 2 ^ k < Big := Nat.lt_of_le_of_lt (Nat.div_le_self _ _) ht
      have s1 := cmpI_sgn (numOf f) (t / 2 ^ k)
      by_cases hp : (k : Int) ≤ lvI (numOf f) t
      · have hp2 := hi.1 hp
        by_cases hl : numOf g ≤ numOf f
        · by_cases hgt : s < t
          · exact lev_ttt t s _ _ f g _ _ _ k _ _ (by omega) rfl hdB rfl (by omega) (by omega) (by omega) (by omega) ht hs haB hbB hf hg rfl rfl rfl (by omega) (by omega) rfl (by omega) rfl (by omega) _ rfl (lvI_mono (by omega) (Nat.le_refl _)) w
          · exact lev_ttf t s _ _ f g _ _ _ k _ _ (by omega) rfl hdB rfl (by omega) (by omega) (by omega) (by omega) ht hs haB hbB hf hg rfl rfl rfl (by omega) (by omega) rfl (by omega) rfl (by omega) _ rfl (lvI_mono (by omega) (Nat.le_refl _)) _ rfl (lvI_mono (Nat.le_refl _) (by omega)) w
        · by_cases hgt : s < t
          · exact lev_tft t s _ _ f g _ _ _ k _ _ (by omega) rfl hdB rfl (by omega) (by omega) (by omega) (by omega) ht hs haB hbB hf hg rfl rfl rfl (by omega) (by omega) rfl (by omega) rfl (by omega) w
          · exact lev_tff t s _ _ f g _ _ _ k _ _ (by omega) rfl hdB rfl (by omega) (by omega) (by omega) (by omega) ht hs haB hbB hf hg rfl rfl rfl (by omega) (by omega) rfl (by omega) rfl (by omega) _ rfl (lvI_mono (Nat.le_refl _) (by omega)) w
      · have hp2 : ¬ numOf f ≤ t / 2 ^ k := fun h => hp (hi.2 h)
        by_cases hl : numOf g ≤ numOf f
        · by_cases hgt : s < t
          · exact lev_ftt t s _ _ f g _ _ _ k _ _ (by omega) rfl hdB rfl (by omega) (by omega) (by omega) (by omega) ht hs haB hbB hf hg rfl rfl rfl (by omega) (by omega) rfl (by omega) rfl (by omega) _ rfl (lvI_mono (by omega) (Nat.le_refl _)) w
          · exact lev_ftf t s _ _ f g _ _ _ k _ _ (by omega) rfl hdB rfl (by omega) (by omega) (by omega) (by omega) ht hs haB hbB hf hg rfl rfl rfl (by omega) (by omega) rfl (by omega) rfl (by omega) _ rfl (lvI_mono (by omega) (Nat.le_refl _)) _ rfl (lvI_mono (Nat.le_refl _) (by omega)) w
        · by_cases hgt : s < t
          · exact lev_fft t s _ _ f g _ _ _ k _ _ (by omega) rfl hdB rfl (by omega) (by omega) (by omega) (by omega) ht hs haB hbB hf hg rfl rfl rfl (by omega) (by omega) rfl (by omega) rfl (by omega) w
          · exact lev_fff t s _ _ f g _ _ _ k _ _ (by omega) rfl hdB rfl (by omega) (by omega) (by omega) (by omega) ht hs haB hbB hf hg rfl rfl rfl (by omega) (by omega) rfl (by omega) rfl (by omega) _ rfl (lvI_mono (Nat.le_refl _) (by omega)) w
    · by_cases hl : numOf g ≤ numOf f
      · by_cases hgt : s < t
        · exact lev_btt t s _ _ f g _ _ _ n (by omega) (by omega) ht hs haB hbB hf hg rfl rfl rfl (by omega) (by omega) rfl (by omega) rfl (by omega) _ rfl (lvI_mono (by omega) (Nat.le_refl _)) w
        · exact lev_btf t s _ _ f g _ _ _ n (by omega) (by omega) ht hs haB hbB hf hg rfl rfl rfl (by omega) (by omega) rfl (by omega) rfl (by omega) _ rfl (lvI_mono (by omega) (Nat.le_refl _)) _ rfl (lvI_mono (Nat.le_refl _) (by omega)) w
      · by_cases hgt : s < t
        · exact lev_bft t s _ _ f g _ _ _ n (by omega) (by omega) ht hs haB hbB hf hg rfl rfl rfl (by omega) (by omega) rfl (by omega) rfl (by omega) w
        · exact lev_bff t s _ _ f g _ _ _ n (by omega) (by omega) ht hs haB hbB hf hg rfl rfl rfl (by omega) (by omega) rfl (by omega) rfl (by omega) _ rfl (lvI_mono (Nat.le_refl _) (by omega)) w
  · by_cases hl : numOf g ≤ numOf f
    · by_cases hgt : s < t
      · exact lev_ntt t s _ _ f g _ _ _ n (by omega) ht hs haB hbB hf hg rfl rfl rfl (by omega) (by omega) rfl (by omega) rfl (by omega) _ rfl (lvI_mono (by omega) (Nat.le_refl _)) w
      · exact lev_ntf t s _ _ f g _ _ _ n (by omega) ht hs haB hbB hf hg rfl rfl rfl (by omega) (by omega) rfl (by omega) rfl (by omega) _ rfl (lvI_mono (by omega) (Nat.le_refl _)) _ rfl (lvI_mono (Nat.le_refl _) (by omega)) w
    · by_cases hgt : s < t
      · exact lev_nft t s _ _ f g _ _ _ n (by omega) ht hs haB hbB hf hg rfl rfl rfl (by omega) (by omega) rfl (by omega) rfl (by omega) w
      · exact lev_nff t s _ _ f g _ _ _ n (by omega) ht hs haB hbB hf hg rfl rfl rfl (by omega) (by omega) rfl (by omega) rfl (by omega) _ rfl (lvI_mono (Nat.le_refl _) (by omega)) w
end Go.Proofs.Ytdbkbaanppnabaa
