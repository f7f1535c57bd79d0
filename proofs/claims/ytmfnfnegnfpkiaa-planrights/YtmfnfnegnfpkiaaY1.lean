
/- num.divide: the plain part. -/
import Derived.Test.YtmfnfnegnfpkiaaX1
import Derived.Test.YtmfnfnegnfpkiaaW2
set_option linter.unusedSimpArgs false
set_option linter.unusedVariables false
set_option maxRecDepth 20000
namespace Go.Proofs.Ytmfnfnegnfpkiaa
open Go.RowKit Go.Shelf

/-- Parts of a number that is a multiple of 2^k, and of one below 2^k, are laid over one another as they are added. -/
theorem or4 {a0 a1 a2 a3 b0 b1 b2 b3 k : Int} (ha : Lim a0 a1 a2 a3) (hb : Lim b0 b1 b2 b3) (h0 : 0 ≤ k) (h1 : k < 256) (hm : val a0 a1 a2 a3 % 2 ^ k.toNat = 0) (hl : val b0 b1 b2 b3 < 2 ^ k.toNat) :
    (bits .or .u64 a0 b0 = a0 + b0 ∧ a0 + b0 < 18446744073709551616) ∧ (bits .or .u64 a1 b1 = a1 + b1 ∧ a1 + b1 < 18446744073709551616) ∧ (bits .or .u64 a2 b2 = a2 + b2 ∧ a2 + b2 < 18446744073709551616) ∧ (bits .or .u64 a3 b3 = a3 + b3 ∧ a3 + b3 < 18446744073709551616) := by
  have orz : ∀ x : Int, 0 ≤ x ∧ x < 18446744073709551616 → bits .or .u64 x 0 = x + 0 ∧ x + 0 < 18446744073709551616 := fun x hx => shl_or (r := 0) ⟨by omega, by omega⟩ hx (show _ = _ by simp) (by omega) (show _ < _ by simp) (by omega)
  have zor : ∀ x : Int, 0 ≤ x ∧ x < 18446744073709551616 → bits .or .u64 0 x = 0 + x ∧ 0 + x < 18446744073709551616 := fun x hx => by
    have hc : bits .or .u64 0 x = bits .or .u64 x 0 := by simp only [bits, BitVec.or_comm]
    rw [hc, (orz x hx).1]; omega
  obtain ⟨r, hr⟩ : ∃ r, k % 64 = r := ⟨_, rfl⟩
  obtain ⟨t, ht⟩ : ∃ t : Nat, r = t := ⟨r.toNat, by omega⟩
  subst ht
  have ht63 : t ≤ 63 := by omega
  obtain ⟨hTU, hT, hU, hT2⟩ := pow_split t ht63
  obtain ⟨ha0, ha1, ha2, ha3⟩ := ha
  obtain ⟨hb0, hb1, hb2, hb3⟩ := hb
  have join : ∀ x y : Int, 0 ≤ x ∧ x < 18446744073709551616 → x % 2 ^ t = 0 → 0 ≤ y → y < 2 ^ t → bits .or .u64 x y = x + y ∧ x + y < 18446744073709551616 := fun x y hx hxm hy0 hy1 =>
    shl_or (r := (t : Int)) ⟨by omega, by omega⟩ hx (show _ = _ by simpa using hxm) hy0 (show _ < _ by simpa using hy1) (by omega)
  rcases (show k / 64 = 0 ∨ k / 64 = 1 ∨ k / 64 = 2 ∨ k / 64 = 3 by omega) with h | h | h | h
  · have ek : (2 : Int) ^ k.toNat = 1 * 2 ^ t := by
      rw [show k.toNat = 0 + t by omega, Int.pow_add]; rfl
    rw [ek] at hm hl
    have eU : (18446744073709551616 : Int) = 2 ^ t * 2 ^ (64 - t) := hTU.symm
    obtain ⟨z, hz⟩ := Int.dvd_of_emod_eq_zero hm
    unfold val at hz hl
    generalize hTe : (2 : Int) ^ t = T at *
    generalize hUe : (2 : Int) ^ (64 - t) = U at *
    have hz' : a0 + a1 * 18446744073709551616 + a2 * 340282366920938463463374607431768211456 + a3 * 6277101735386680763835789423207666416102355444464034512896 = (T * z) * 1 := by rw [show (T * z) * 1 = 1 * T * z by grind]; exact hz
    have zb1 : b1 = 0 := by omega
    have zb2 : b2 = 0 := by omega
    have zb3 : b3 = 0 := by omega
    have hap : a0 = T * (z - U * (a1 + a2 * 18446744073709551616 + a3 * 340282366920938463463374607431768211456)) := by
      rw [Int.mul_sub, ← Int.mul_assoc, hTU]
      generalize T * z = Y at *
      omega
    have hmp : a0 % T = 0 := by rw [hap]; exact Int.mul_emod_right _ _
    exact ⟨join a0 b0 ha0 hmp hb0.1 (by omega), by rw [zb1]; exact orz a1 ha1, by rw [zb2]; exact orz a2 ha2, by rw [zb3]; exact orz a3 ha3⟩
  · have ek : (2 : Int) ^ k.toNat = 18446744073709551616 * 2 ^ t := by
      rw [show k.toNat = 64 + t by omega, Int.pow_add]; rfl
    rw [ek] at hm hl
    have eU : (18446744073709551616 : Int) = 2 ^ t * 2 ^ (64 - t) := hTU.symm
    obtain ⟨z, hz⟩ := Int.dvd_of_emod_eq_zero hm
    unfold val at hz hl
    generalize hTe : (2 : Int) ^ t = T at *
    generalize hUe : (2 : Int) ^ (64 - t) = U at *
    have hz' : a0 + a1 * 18446744073709551616 + a2 * 340282366920938463463374607431768211456 + a3 * 6277101735386680763835789423207666416102355444464034512896 = (T * z) * 18446744073709551616 := by rw [show (T * z) * 18446744073709551616 = 18446744073709551616 * T * z by grind]; exact hz
    have za0 : a0 = 0 := by generalize T * z = Y at *; omega
    have zb2 : b2 = 0 := by omega
    have zb3 : b3 = 0 := by omega
    have hap : a1 = T * (z - U * (a2 + a3 * 18446744073709551616)) := by
      rw [Int.mul_sub, ← Int.mul_assoc, hTU]
      generalize T * z = Y at *
      omega
    have hmp : a1 % T = 0 := by rw [hap]; exact Int.mul_emod_right _ _
    exact ⟨by rw [za0]; exact zor b0 hb0, join a1 b1 ha1 hmp hb1.1 (by omega), by rw [zb2]; exact orz a2 ha2, by rw [zb3]; exact orz a3 ha3⟩
  · have ek : (2 : Int) ^ k.toNat = 340282366920938463463374607431768211456 * 2 ^ t := by
      rw [show k.toNat = 128 + t by omega, Int.pow_add]; rfl
    rw [ek] at hm hl
    have eU : (18446744073709551616 : Int) = 2 ^ t * 2 ^ (64 - t) := hTU.symm
    obtain ⟨z, hz⟩ := Int.dvd_of_emod_eq_zero hm
    unfold val at hz hl
    generalize hTe : (2 : Int) ^ t = T at *
    generalize hUe : (2 : Int) ^ (64 - t) = U at *
    have hz' : a0 + a1 * 18446744073709551616 + a2 * 340282366920938463463374607431768211456 + a3 * 6277101735386680763835789423207666416102355444464034512896 = (T * z) * 340282366920938463463374607431768211456 := by rw [show (T * z) * 340282366920938463463374607431768211456 = 340282366920938463463374607431768211456 * T * z by grind]; exact hz
    have za0 : a0 = 0 := by generalize T * z = Y at *; omega
    have za1 : a1 = 0 := by generalize T * z = Y at *; omega
    have zb3 : b3 = 0 := by omega
    have hap : a2 = T * (z - U * (a3)) := by
      rw [Int.mul_sub, ← Int.mul_assoc, hTU]
      generalize T * z = Y at *
      omega
    have hmp : a2 % T = 0 := by rw [hap]; exact Int.mul_emod_right _ _
    exact ⟨by rw [za0]; exact zor b0 hb0, by rw [za1]; exact zor b1 hb1, join a2 b2 ha2 hmp hb2.1 (by omega), by rw [zb3]; exact orz a3 ha3⟩
  · have ek : (2 : Int) ^ k.toNat = 6277101735386680763835789423207666416102355444464034512896 * 2 ^ t := by
      rw [show k.toNat = 192 + t by omega, Int.pow_add]; rfl
    rw [ek] at hm hl
    have eU : (18446744073709551616 : Int) = 2 ^ t * 2 ^ (64 - t) := hTU.symm
    obtain ⟨z, hz⟩ := Int.dvd_of_emod_eq_zero hm
    unfold val at hz hl
    generalize hTe : (2 : Int) ^ t = T at *
    generalize hUe : (2 : Int) ^ (64 - t) = U at *
    have hz' : a0 + a1 * 18446744073709551616 + a2 * 340282366920938463463374607431768211456 + a3 * 6277101735386680763835789423207666416102355444464034512896 = (T * z) * 6277101735386680763835789423207666416102355444464034512896 := by rw [show (T * z) * 6277101735386680763835789423207666416102355444464034512896 = 6277101735386680763835789423207666416102355444464034512896 * T * z by grind]; exact hz
    have za0 : a0 = 0 := by generalize T * z = Y at *; omega
    have za1 : a1 = 0 := by generalize T * z = Y at *; omega
    have za2 : a2 = 0 := by generalize T * z = Y at *; omega
    have hap : a3 = T * (z - U * (0)) := by
      rw [Int.mul_sub, ← Int.mul_assoc, hTU]
      generalize T * z = Y at *
      omega
    have hmp : a3 % T = 0 := by rw [hap]; exact Int.mul_emod_right _ _
    exact ⟨by rw [za0]; exact zor b0 hb0, by rw [za1]; exact zor b1 hb1, by rw [za2]; exact zor b2 hb2, join a3 b3 ha3 hmp hb3.1 (by omega)⟩

theorem div_pre {h l c k a b : Int} (hh : 0 ≤ h) (hl : 0 ≤ l ∧ l < 115792089237316195423570985008687907853269984665640564039457584007913129639936) (hhc : h < c) (hk0 : 0 ≤ k) (hk1 : k < 256)
    (hn : Hid (57896044618658097711785492504343953926634992332820282019728792003956564819968 ≤ c * 2 ^ k.toNat ∧ c * 2 ^ k.toNat < 115792089237316195423570985008687907853269984665640564039457584007913129639936)) (ha : 0 ≤ a) (hb : 0 ≤ b) (s1 : ShlS h k a) (s2 : ShrS l (256 - k) b) : a % 2 ^ k.toNat = 0 ∧ b < 2 ^ k.toNat := by
  obtain ⟨t, rfl⟩ := Int.eq_ofNat_of_zero_le hk0
  have e256 : ((256 : Int) - (t : Int)).toNat = 256 - t := by omega
  obtain ⟨q1, q10, e1⟩ := s1
  obtain ⟨m, m0, m1, e2⟩ := s2
  rw [e256] at m1 e2
  have hn := hn.out
  rw [Int.toNat_natCast] at *
  have hTU : (2 : Int) ^ t * 2 ^ (256 - t) = 115792089237316195423570985008687907853269984665640564039457584007913129639936 := by
    rw [← Int.pow_add, show t + (256 - t) = 256 by omega]; rfl
  have hT : (0 : Int) < 2 ^ t := Int.pow_pos (by omega)
  have hU : (0 : Int) < 2 ^ (256 - t) := Int.pow_pos (by omega)
  generalize (2 : Int) ^ t = T at *
  generalize (2 : Int) ^ (256 - t) = U at *
  have h1 : (h + 1) * T ≤ c * T := Int.mul_le_mul_of_nonneg_right (by omega) (by omega)
  rw [Int.add_mul] at h1
  have f1 : h * T = a := by
    have : 0 ≤ h * T := Int.mul_nonneg hh (by omega)
    generalize h * T = A at *; generalize c * T = B at *; omega
  refine ⟨by rw [← f1]; exact Int.mul_emod_left _ _, ?_⟩
  apply Int.lt_of_mul_lt_mul_right (a := U) _ (by omega)
  rw [hTU]
  generalize b * U = B at *
  omega

/-- What the shifts make of what is divided, and of what divides it. -/
theorem div_setup {h l c k a b cc d : Int} (hh : 0 ≤ h) (hl : 0 ≤ l ∧ l < 115792089237316195423570985008687907853269984665640564039457584007913129639936) (hhc : h < c) (hk0 : 0 ≤ k) (hk1 : k < 256)
    (hn : Hid (57896044618658097711785492504343953926634992332820282019728792003956564819968 ≤ c * 2 ^ k.toNat ∧ c * 2 ^ k.toNat < 115792089237316195423570985008687907853269984665640564039457584007913129639936))
    (ha : 0 ≤ a) (hb : 0 ≤ b) (hcc : 0 ≤ cc ∧ cc < 115792089237316195423570985008687907853269984665640564039457584007913129639936) (hd : 0 ≤ d ∧ d < 115792089237316195423570985008687907853269984665640564039457584007913129639936)
    (s1 : ShlS h k a) (s2 : ShrS l (256 - k) b) (s3 : ShlS c k cc) (s4 : ShlS l k d) :
    a % 2 ^ k.toNat = 0 ∧ b < 2 ^ k.toNat ∧ 57896044618658097711785492504343953926634992332820282019728792003956564819968 ≤ cc ∧ a + b < cc ∧ Hid (cc = c * 2 ^ k.toNat) ∧ Hid ((h * 115792089237316195423570985008687907853269984665640564039457584007913129639936 + l) * 2 ^ k.toNat = (a + b) * 115792089237316195423570985008687907853269984665640564039457584007913129639936 + d) := by
  obtain ⟨t, rfl⟩ := Int.eq_ofNat_of_zero_le hk0
  have e256 : ((256 : Int) - (t : Int)).toNat = 256 - t := by omega
  obtain ⟨q1, q10, e1⟩ := s1
  obtain ⟨m, m0, m1, e2⟩ := s2
  obtain ⟨q3, q30, e3⟩ := s3
  obtain ⟨q4, q40, e4⟩ := s4
  rw [e256] at m1 e2
  have hn := hn.out
  rw [Int.toNat_natCast] at *
  have hTU : (2 : Int) ^ t * 2 ^ (256 - t) = 115792089237316195423570985008687907853269984665640564039457584007913129639936 := by
    rw [← Int.pow_add, show t + (256 - t) = 256 by omega]; rfl
  have hT : (0 : Int) < 2 ^ t := Int.pow_pos (by omega)
  have hU : (0 : Int) < 2 ^ (256 - t) := Int.pow_pos (by omega)
  generalize (2 : Int) ^ t = T at *
  generalize (2 : Int) ^ (256 - t) = U at *
  have h1 : (h + 1) * T ≤ c * T := Int.mul_le_mul_of_nonneg_right (by omega) (by omega)
  rw [Int.add_mul] at h1
  have f1 : h * T = a := by
    have : 0 ≤ h * T := Int.mul_nonneg hh (by omega)
    generalize h * T = A at *; generalize c * T = B at *; omega
  have f3 : c * T = cc := by generalize c * T = B at *; omega
  have f4 : l * T = b * 115792089237316195423570985008687907853269984665640564039457584007913129639936 + m * T := by
    rw [e2, Int.add_mul, Int.mul_assoc, Int.mul_comm U T, hTU]
  have g1 : 0 ≤ m * T := Int.mul_nonneg m0 (by omega)
  have g2 : m * T < U * T := Int.mul_lt_mul_of_pos_right m1 hT
  rw [Int.mul_comm U T, hTU] at g2
  have f5 : b = q4 ∧ m * T = d := by
    rw [e4] at f4
    generalize m * T = B at *
    omega
  have f6 : b < T := by
    apply Int.lt_of_mul_lt_mul_right (a := U) _ (by omega)
    rw [hTU]
    generalize b * U = B at *
    omega
  refine ⟨by rw [← f1]; exact Int.mul_emod_left _ _, f6, by rw [← f3]; exact hn.1, ?_, f3.symm, ?_⟩
  · rw [← f1, ← f3]; omega
  · show _ = _
    have : (h * 115792089237316195423570985008687907853269984665640564039457584007913129639936 + l) * T = h * T * 115792089237316195423570985008687907853269984665640564039457584007913129639936 + l * T := by rw [Int.add_mul, Int.mul_right_comm]
    rw [this, f1, f4, f5.2]
    generalize m * T = B at *
    omega

/-- The first parts of a number, from the highest one on. -/
def topn (n : Nat) (d0 d1 d2 d3 : Int) : Int := match n with
  | 0 => 0
  | 1 => d3
  | 2 => d3 * 18446744073709551616 + d2
  | 3 => (d3 * 18446744073709551616 + d2) * 18446744073709551616 + d1
  | _ => ((d3 * 18446744073709551616 + d2) * 18446744073709551616 + d1) * 18446744073709551616 + d0

theorem topn4 (d0 d1 d2 d3 : Int) : topn 4 d0 d1 d2 d3 = val d0 d1 d2 d3 := by
  show ((d3 * 18446744073709551616 + d2) * 18446744073709551616 + d1) * 18446744073709551616 + d0 = _
  unfold val; omega

def powM (n : Nat) : Int := match n with
  | 0 => 1
  | 1 => 18446744073709551616
  | 2 => 340282366920938463463374607431768211456
  | 3 => 6277101735386680763835789423207666416102355444464034512896
  | _ => 115792089237316195423570985008687907853269984665640564039457584007913129639936

theorem pref_last {d0 d1 d2 d3 : Int} (hd : Lim d0 d1 d2 d3) {pre : List Limb} {x : Limb} (h : pre ++ [x] <+: limbsDown hd) : pre <+: limbsDown hd ∧ pre.length = 3 - x.1.1 ∧ x.1.2 = at4 d0 d1 d2 d3 x.1.1 := by
  refine ⟨List.IsPrefix.trans (List.prefix_append _ _) h, ?_⟩
  obtain ⟨t, ht⟩ := h
  unfold limbsDown at ht
  match pre, ht with
  | [], ht => simp at ht; obtain ⟨rfl, -⟩ := ht; exact ⟨rfl, rfl⟩
  | [a], ht => simp at ht; obtain ⟨rfl, rfl, -⟩ := ht; exact ⟨rfl, rfl⟩
  | [a, b], ht => simp at ht; obtain ⟨rfl, rfl, rfl, -⟩ := ht; exact ⟨rfl, rfl⟩
  | [a, b, c], ht => simp at ht; obtain ⟨rfl, rfl, rfl, rfl, -⟩ := ht; exact ⟨rfl, rfl⟩
  | a :: b :: c :: d :: r, ht =>
    have := congrArg List.length ht
    simp at this

theorem blk5 {W : World} {A B i : Nat} {Qc Rc : Array Value} {t t' : TypeId} (q z0 z1 z2 z3 : Value) (hQ : W.heap[A]? = some (.cells Qc t (0, 0))) (hR : W.heap[B]? = some (.cells Rc t' (0, 0))) (hs : Rc.size = 4) (hne : A ≠ B) :
    (((((W.setCell ⟨A, i, none⟩ q).setCell ⟨B, 0, none⟩ z0).setCell ⟨B, 1, none⟩ z1).setCell ⟨B, 2, none⟩ z2).setCell ⟨B, 3, none⟩ z3).heap[A]? = some (.cells (Qc.setIfInBounds i q) t (0, 0)) ∧
    (((((W.setCell ⟨A, i, none⟩ q).setCell ⟨B, 0, none⟩ z0).setCell ⟨B, 1, none⟩ z1).setCell ⟨B, 2, none⟩ z2).setCell ⟨B, 3, none⟩ z3).heap[B]? = some (.cells #[z0, z1, z2, z3] t' (0, 0)) ∧
    (∀ k, k ≠ A → k ≠ B → (((((W.setCell ⟨A, i, none⟩ q).setCell ⟨B, 0, none⟩ z0).setCell ⟨B, 1, none⟩ z1).setCell ⟨B, 2, none⟩ z2).setCell ⟨B, 3, none⟩ z3).heap[k]? = W.heap[k]?) ∧
    (((((W.setCell ⟨A, i, none⟩ q).setCell ⟨B, 0, none⟩ z0).setCell ⟨B, 1, none⟩ z1).setCell ⟨B, 2, none⟩ z2).setCell ⟨B, 3, none⟩ z3).heap.size = W.heap.size ∧
    KeepsOthers W (((((W.setCell ⟨A, i, none⟩ q).setCell ⟨B, 0, none⟩ z0).setCell ⟨B, 1, none⟩ z1).setCell ⟨B, 2, none⟩ z2).setCell ⟨B, 3, none⟩ z3) := by
  have h1 := block_set (i := i) q hQ
  have h2 := block_set_other (i := i) q hR hne
  refine ⟨?_, ?_, fun k h3 h4 => ?_, by simp [World.setCell], (((((KeepsOthers.setCell _ _ _).trans (KeepsOthers.setCell _ _ _)).trans (KeepsOthers.setCell _ _ _)).trans (KeepsOthers.setCell _ _ _)).trans (KeepsOthers.setCell _ _ _))⟩
  · exact block_set_other z3 (block_set_other z2 (block_set_other z1 (block_set_other z0 h1 (Ne.symm hne)) (Ne.symm hne)) (Ne.symm hne)) (Ne.symm hne)
  · have := block_set (i := 3) z3 (block_set (i := 2) z2 (block_set (i := 1) z1 (block_set (i := 0) z0 h2)))
    rw [this]
    match Rc, hs with
    | ⟨[r0, r1, r2, r3]⟩, _ => simp
  · rw [Below.heap_setCell _ _ _ _ h4, Below.heap_setCell _ _ _ _ h4, Below.heap_setCell _ _ _ _ h4, Below.heap_setCell _ _ _ _ h4, Below.heap_setCell _ _ _ _ h3]

theorem wpIn_calm {F : Fence} {n : Nat} {P : Program} {c : Code} {K : Act → World → Prop} {Q : Exit → Act → World → Prop} {a : Act} {w : World} (h : c.wpIn F n P (Exit.then K (fun _ _ _ => False)) a w) : c.wpIn F n P (Exit.then K Q) a w :=
  Go.wpIn_mono h (fun e a w hq => by cases e <;> first | exact hq | exact hq.elim)

theorem blkSame {W : World} {A : Nat} {t : TypeId} {q0 q1 q2 q3 : Value} (hQ : W.heap[A]? = some (.cells #[q0, q1, q2, q3] t (0, 0))) :
    ((((W.setCell ⟨A, 0, none⟩ q0).setCell ⟨A, 1, none⟩ q1).setCell ⟨A, 2, none⟩ q2).setCell ⟨A, 3, none⟩ q3).drew.heap[A]? = some (.cells #[q0, q1, q2, q3] t (0, 0)) ∧
    KeepsOthers W ((((W.setCell ⟨A, 0, none⟩ q0).setCell ⟨A, 1, none⟩ q1).setCell ⟨A, 2, none⟩ q2).setCell ⟨A, 3, none⟩ q3).drew := by
  refine ⟨?_, (((((KeepsOthers.setCell _ _ _).trans (KeepsOthers.setCell _ _ _)).trans (KeepsOthers.setCell _ _ _)).trans (KeepsOthers.setCell _ _ _)).trans (KeepsOthers.drew _))⟩
  rw [dr_blk, block_set (i := 3) q3 (block_set (i := 2) q2 (block_set (i := 1) q1 (block_set (i := 0) q0 hQ)))]
  simp

theorem step_eq {RI C pw te tq R v q z : Int} (h : RI * pw + te = tq * C + R) (h2 : R * 18446744073709551616 + v = q * C + z) : RI * (pw * 18446744073709551616) + (te * 18446744073709551616 + v) = (tq * 18446744073709551616 + q) * C + z := by
  have e1 : RI * (pw * 18446744073709551616) = RI * pw * 18446744073709551616 := by rw [Int.mul_assoc]
  have e2 : (tq * 18446744073709551616 + q) * C = tq * C * 18446744073709551616 + q * C := by rw [Int.add_mul, Int.mul_right_comm]
  rw [e1, e2]
  generalize RI * pw = A at *
  generalize tq * C = B at *
  generalize q * C = D at *
  omega

theorem div_end {N Q c k CC R : Int} (h1 : Hid (CC = c * 2 ^ k.toNat)) (h2 : N * 2 ^ k.toNat = Q * CC + R) (h3 : 0 ≤ R) (h4 : R < CC) : ∃ r, 0 ≤ r ∧ r < c ∧ N = Q * c + r ∧ (r = 0 ↔ R = 0) := by
  have h1 := h1.out
  have hT : (0 : Int) < 2 ^ k.toNat := Int.pow_pos (by omega)
  generalize (2 : Int) ^ k.toNat = T at *
  subst h1
  have e : R = (N - Q * c) * T := by rw [Int.sub_mul, h2, Int.mul_assoc]; omega
  have e1 : 0 ≤ N - Q * c := by
    by_cases c1 : 0 ≤ N - Q * c
    · exact c1
    · have : (N - Q * c) * T ≤ (-1) * T := Int.mul_le_mul_of_nonneg_right (by omega) (by omega)
      omega
  have e2 : N - Q * c < c := by
    apply Int.lt_of_mul_lt_mul_right (a := T) _ (by omega)
    rw [← e]; exact h4
  refine ⟨N - Q * c, e1, e2, by omega, ?_⟩
  constructor
  · intro h; rw [e, h]; omega
  · intro h
    rw [e] at h
    rcases Int.mul_eq_zero.1 h with h | h
    · exact h
    · omega

theorem keeps_below {W W' : World} (h : Below W.heap.size W W') : KeepsOthers W W' := by
  refine ⟨h.size, fun k o ho hc => ?_⟩
  rw [h.block k (Array.getElem?_eq_some_iff.1 ho).1]; exact ho
end Go.Proofs.Ytmfnfnegnfpkiaa
