
/- math/bits.Len64, LeadingZeros64. -/
import Derived.Test.YtmfnfnegnfpkiaaB
import Derived.Deep.Light
set_option linter.unusedSimpArgs false
set_option linter.unusedVariables false
set_option maxRecDepth 20000
namespace Go.Proofs.Ytmfnfnegnfpkiaa
open Go.RowKit

theorem ret_int {k : IntKind} {a b : Int} (h : a = b) : Ending.returned (.int k a) = .returned (.int k b) := by rw [h]

theorem len_fin (s : Nat) (x y : Int) (hx : 0 ≤ x) (e : y = x / (2 ^ s : Nat)) (h1 : y < 256) (h2 : s = 0 ∨ 1 ≤ y) (hs : s ≤ 56) : wrap64 ((s : Int) + wrap64 (bitLen y.toNat : Int)) = (bitLen x.toNat : Int) := by
  have hy : 0 ≤ y := by rw [e]; exact Int.ediv_nonneg hx (Int.natCast_nonneg _)
  have hb : bitLen y.toNat ≤ 8 := bitLen_le8 _ (by omega)
  have key : bitLen x.toNat = s + bitLen y.toNat := by
    rcases h2 with rfl | h2
    · have : y = x := by rw [e]; simp
      rw [this]; omega
    · have ey : y.toNat = x.toNat / 2 ^ s := by
        obtain ⟨n, rfl⟩ := Int.eq_ofNat_of_zero_le hx
        have : y = ((n / 2 ^ s : Nat) : Int) := by rw [e]; simp
        rw [this]; exact Int.toNat_natCast _
      rw [ey]
      exact bitLen_shift _ _ (by rw [← ey]; omega)
  unfold wrap64
  omega

set_option maxRecDepth 1000000 in
set_option maxHeartbeats 4000000 in
theorem len64_any (x : Int) (h1 : 0 ≤ x) (h2 : x < 18446744073709551616) (w : World) :
    Calls Try.prog 131 #[.int .u64 x] w fun e w' => e = .returned (.int .i64 (bitLen x.toNat)) ∧ w' = w := by
  go_enter Try.func131, Try.ntmps131
  go_wp2
  all_goals (go_ret; refine ⟨ret_int ?_, rfl⟩; go_light; rw [len8tab_get])
  · exact len_fin 56 x _ h1 (by simp; omega) (by omega) (by omega) (by omega)
  · exact len_fin 48 x _ h1 (by simp; omega) (by omega) (by omega) (by omega)
  · exact len_fin 40 x _ h1 (by simp; omega) (by omega) (by omega) (by omega)
  · exact len_fin 32 x _ h1 (by simp) (by omega) (by omega) (by omega)
  · exact len_fin 24 x _ h1 (by simp; omega) (by omega) (by omega) (by omega)
  · exact len_fin 16 x _ h1 (by simp) (by omega) (by omega) (by omega)
  · exact len_fin 8 x _ h1 (by simp) (by omega) (by omega) (by omega)
  · have := len_fin 0 x x h1 (by simp) (by omega) (by omega) (by omega)
    simpa using this

theorem bitLen_le64 {x : Int} (h1 : 0 ≤ x) (h2 : x < 18446744073709551616) : bitLen x.toNat ≤ 64 := by
  unfold bitLen
  split
  · omega
  · rename_i h0
    have := (Nat.log2_lt h0).2 (show x.toNat < 2 ^ 64 by omega)
    omega

set_option maxHeartbeats 400000 in
theorem lead64_any (x : Int) (h1 : 0 ≤ x) (h2 : x < 18446744073709551616) (w : World) :
    Calls Try.prog 128 #[.int .u64 x] w fun e w' => e = .returned (.int .i64 (64 - (bitLen x.toNat : Int))) ∧ w' = w := by
  have hb := bitLen_le64 h1 h2
  go_enter Try.func128, Try.ntmps128
  go_wp2_with (go_at_call 131; refine (len64_any _ h1 h2 _).mono ?_; rintro e w' ⟨rfl, rfl⟩)
  go_ret
  exact ⟨rfl, rfl⟩
end Go.Proofs.Ytmfnfnegnfpkiaa
