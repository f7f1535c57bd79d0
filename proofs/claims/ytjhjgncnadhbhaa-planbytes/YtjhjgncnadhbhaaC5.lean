
/- The reference's Same, of coins. -/
import Derived.Test.YtjhjgncnadhbhaaC4
set_option linter.unusedSimpArgs false
set_option linter.unusedVariables false
set_option maxRecDepth 20000
namespace Go.Proofs.Ytjhjgncnadhbhaa
open Go.RowKit

set_option maxHeartbeats 2000000 in
theorem sameC_some (g h o u c d : Nat) (p : List Cn) (hlen : p.length ≤ 1048576) (w : World) (hg : g < w.heap.size) (hh : h < w.heap.size)
    (hp : ∀ i x, p[i]? = some x → CnAt w g (o + i * 5) x) (hq : ∀ i x, p[i]? = some x → CnAt w h (u + i * 5) x) :
    Calls Try.prog 13 #[.slice (some ⟨g, o, none⟩) p.length c, .slice (some ⟨h, u, none⟩) p.length d] w fun e w' => e = .returned (.bool true) ∧ Below w.heap.size w w' := by
  have hpad := pads
  have heq := eq_coin
  have hes : ∀ a b c d, eq4 a b c d a b c d = true := fun a b c d => eq4_true.2 ⟨rfl, rfl, rfl, rfl⟩
  go_enter Try.func13, Try.ntmps13
  go_wp2
  go_loopw [5] (fun i wr => ∃ (k m : Nat) (f : Nat → Obj) (dr : Nat), k ≤ p.length ∧ i = .int .i64 k ∧ w.heap.size ≤ m ∧ wr = pad w m f dr) (fun i _ => p.length - (intOf i).toNat)
  case atStart =>
    obtain ⟨m, f, dr, hm, e⟩ := pad_of (Below.refl w.heap.size w)
    exact ⟨0, m, f, dr, Nat.zero_le _, rfl, hm, e⟩
  case round =>
    obtain ⟨k, m, f, dr, hk, rfl, hm, rfl⟩ := hrel
    by_cases hkl : k < p.length
    · obtain ⟨a0, a1, a2, a3, a4⟩ := hp k p[k] (by simp [hkl])
      obtain ⟨b0, b1, b2, b3, b4⟩ := hq k p[k] (by simp [hkl])
      have hgm : g < m := by omega
      have hhm : h < m := by omega
      generalize p[k] = x at *
      clear hp hq
      go_wp2
      go_region
      all_goals go_wp2
      all_goals go_roundw
      case rel => exact ⟨k + 1, m, f, dr + 1, by omega, by go_num, hm, by first | rfl | (simp [hpad]; done)⟩
      case measure => (simp [intOf] <;> omega)
    · have hk' : k = p.length := by omega
      subst hk'
      go_wp2
      go_ret
      exact ⟨rfl, by (repeat (first | (with_reducible exact Below.refl _ _) | (with_reducible assumption) | (with_reducible apply bd) | (with_reducible apply ba) | (with_reducible refine bp ?_ (by first | omega | (simp [pad_size]; done) | (simp [pad_size]; omega)) _ _) | (with_reducible refine bs ?_ (by first | omega | (simp [pad_size]; done) | (simp [pad_size]; omega)) _) | (with_reducible refine bt ?_ (by assumption))))⟩

set_option maxHeartbeats 1000000 in
theorem sameC_nil (a b : Option Addr) (c d : Nat) (w : World) :
    Calls Try.prog 13 #[.slice a 0 c, .slice b 0 d] w fun e w' => e = .returned (.bool true) ∧ Below w.heap.size w w' := by
  go_enter Try.func13, Try.ntmps13
  go_wp2
  apply wp_loop_rounds 1
  simp only [Code.rounds]
  go_wp2
  go_ret
  exact ⟨rfl, by (repeat (first | (with_reducible exact Below.refl _ _) | (with_reducible assumption) | (with_reducible apply bd) | (with_reducible apply ba) | (with_reducible refine bp ?_ (by first | omega | (simp [pad_size]; done) | (simp [pad_size]; omega)) _ _) | (with_reducible refine bs ?_ (by first | omega | (simp [pad_size]; done) | (simp [pad_size]; omega)) _) | (with_reducible refine bt ?_ (by assumption))))⟩

theorem sameC_any {va vb : Value} {p : List Cn} (w : World) (hA : IsCoins w va p) (hB : IsCoins w vb p) :
    Calls Try.prog 13 #[va, vb] w fun e w' => e = .returned (.bool true) ∧ Below w.heap.size w w' := by
  rcases hA with ⟨rfl, a, c, rfl⟩ | ⟨g, o, c, rfl, h0, h1, h2, h3⟩
  · rcases hB with ⟨_, b, d, rfl⟩ | ⟨h, u, d, rfl, k0, k1, k2, k3⟩
    · exact sameC_nil a b c d w
    · exact absurd rfl k0
  · rcases hB with ⟨hp, b, d, rfl⟩ | ⟨h, u, d, rfl, k0, k1, k2, k3⟩
    · exact absurd hp h0
    · exact sameC_some g h o u c d p h1 w h2 k2 h3 k3
end Go.Proofs.Ytjhjgncnadhbhaa
