
/- num.noughts. -/
import Derived.Test.YtmfnfnegnfpkiaaG
import Derived.Test.YtmfnfnegnfpkiaaQ
set_option linter.unusedSimpArgs false
set_option linter.unusedVariables false
set_option maxRecDepth 20000
namespace Go.Proofs.Ytmfnfnegnfpkiaa
open Go.RowKit Go.Shelf
attribute [local go_sem] Oper.semAt_some

theorem kp_set {B : Nat} {W : World} {b o : Nat} {v : Value} (h : B ≠ b) : KpB B W (W.setCell ⟨b, o, none⟩ v).drew :=
  Below.heap_setCell W ⟨b, o, none⟩ v B h

theorem nought_T {x s : Int} (h5 : 0 ≤ s) (h6 : s < 64) (h7 : 9223372036854775808 ≤ x * 2 ^ s.toNat ∧ x * 2 ^ s.toNat < 18446744073709551616) : x * 2 ^ s.toNat + 2 ^ s.toNat ≤ 18446744073709551616 ∧ (0 : Int) < 2 ^ s.toNat := by
  obtain ⟨t, rfl⟩ := Int.eq_ofNat_of_zero_le h5
  rw [Int.toNat_natCast] at *
  obtain ⟨hTU, hT, hU, hT2⟩ := pow_split t (by omega)
  generalize (2 : Int) ^ t = T at *
  generalize (2 : Int) ^ (64 - t) = U at *
  have h1 : x < U := by
    apply Int.lt_of_mul_lt_mul_right (a := T) _ (by omega)
    rw [Int.mul_comm U T, hTU]; exact h7.2
  have h2 : (x + 1) * T ≤ U * T := Int.mul_le_mul_of_nonneg_right (by omega) (by omega)
  rw [Int.mul_comm U T, hTU, Int.add_mul] at h2
  exact ⟨by omega, hT⟩

theorem nought_0 {V x t s : Int} (h5 : 0 ≤ s) (h6 : s < 64) (h7 : 9223372036854775808 ≤ x * 2 ^ s.toNat ∧ x * 2 ^ s.toNat < 18446744073709551616) (hV : V = x * 6277101735386680763835789423207666416102355444464034512896 + t) (ht : 0 ≤ t ∧ t < 6277101735386680763835789423207666416102355444464034512896) :
    57896044618658097711785492504343953926634992332820282019728792003956564819968 ≤ V * 2 ^ (0 + s).toNat ∧ V * 2 ^ (0 + s).toNat < 115792089237316195423570985008687907853269984665640564039457584007913129639936 := by
  obtain ⟨g1, g2⟩ := nought_T h5 h6 h7
  have e : (2 : Int) ^ (0 + s).toNat = 1 * 2 ^ s.toNat := by
    rw [show (0 + s).toNat = 0 + s.toNat by omega, Int.pow_add]; rfl
  rw [e]
  generalize (2 : Int) ^ s.toNat = T at *
  have e1 : V * (1 * T) = x * T * 6277101735386680763835789423207666416102355444464034512896 + t * T * 1 := by rw [hV]; grind
  have e2 : t * T ≤ 6277101735386680763835789423207666416102355444464034512895 * T := Int.mul_le_mul_of_nonneg_right (by omega) (by omega)
  have e3 : 0 ≤ t * T := Int.mul_nonneg ht.1 (by omega)
  rw [e1]
  generalize t * T = A at *
  generalize x * T = B at *
  omega

theorem nought_1 {V x t s : Int} (h5 : 0 ≤ s) (h6 : s < 64) (h7 : 9223372036854775808 ≤ x * 2 ^ s.toNat ∧ x * 2 ^ s.toNat < 18446744073709551616) (hV : V = x * 340282366920938463463374607431768211456 + t) (ht : 0 ≤ t ∧ t < 340282366920938463463374607431768211456) :
    57896044618658097711785492504343953926634992332820282019728792003956564819968 ≤ V * 2 ^ (64 + s).toNat ∧ V * 2 ^ (64 + s).toNat < 115792089237316195423570985008687907853269984665640564039457584007913129639936 := by
  obtain ⟨g1, g2⟩ := nought_T h5 h6 h7
  have e : (2 : Int) ^ (64 + s).toNat = 18446744073709551616 * 2 ^ s.toNat := by
    rw [show (64 + s).toNat = 64 + s.toNat by omega, Int.pow_add]; rfl
  rw [e]
  generalize (2 : Int) ^ s.toNat = T at *
  have e1 : V * (18446744073709551616 * T) = x * T * 6277101735386680763835789423207666416102355444464034512896 + t * T * 18446744073709551616 := by rw [hV]; grind
  have e2 : t * T ≤ 340282366920938463463374607431768211455 * T := Int.mul_le_mul_of_nonneg_right (by omega) (by omega)
  have e3 : 0 ≤ t * T := Int.mul_nonneg ht.1 (by omega)
  rw [e1]
  generalize t * T = A at *
  generalize x * T = B at *
  omega

theorem nought_2 {V x t s : Int} (h5 : 0 ≤ s) (h6 : s < 64) (h7 : 9223372036854775808 ≤ x * 2 ^ s.toNat ∧ x * 2 ^ s.toNat < 18446744073709551616) (hV : V = x * 18446744073709551616 + t) (ht : 0 ≤ t ∧ t < 18446744073709551616) :
    57896044618658097711785492504343953926634992332820282019728792003956564819968 ≤ V * 2 ^ (128 + s).toNat ∧ V * 2 ^ (128 + s).toNat < 115792089237316195423570985008687907853269984665640564039457584007913129639936 := by
  obtain ⟨g1, g2⟩ := nought_T h5 h6 h7
  have e : (2 : Int) ^ (128 + s).toNat = 340282366920938463463374607431768211456 * 2 ^ s.toNat := by
    rw [show (128 + s).toNat = 128 + s.toNat by omega, Int.pow_add]; rfl
  rw [e]
  generalize (2 : Int) ^ s.toNat = T at *
  have e1 : V * (340282366920938463463374607431768211456 * T) = x * T * 6277101735386680763835789423207666416102355444464034512896 + t * T * 340282366920938463463374607431768211456 := by rw [hV]; grind
  have e2 : t * T ≤ 18446744073709551615 * T := Int.mul_le_mul_of_nonneg_right (by omega) (by omega)
  have e3 : 0 ≤ t * T := Int.mul_nonneg ht.1 (by omega)
  rw [e1]
  generalize t * T = A at *
  generalize x * T = B at *
  omega

theorem nought_3 {V x t s : Int} (h5 : 0 ≤ s) (h6 : s < 64) (h7 : 9223372036854775808 ≤ x * 2 ^ s.toNat ∧ x * 2 ^ s.toNat < 18446744073709551616) (hV : V = x * 1 + t) (ht : 0 ≤ t ∧ t < 1) :
    57896044618658097711785492504343953926634992332820282019728792003956564819968 ≤ V * 2 ^ (192 + s).toNat ∧ V * 2 ^ (192 + s).toNat < 115792089237316195423570985008687907853269984665640564039457584007913129639936 := by
  obtain ⟨g1, g2⟩ := nought_T h5 h6 h7
  have e : (2 : Int) ^ (192 + s).toNat = 6277101735386680763835789423207666416102355444464034512896 * 2 ^ s.toNat := by
    rw [show (192 + s).toNat = 192 + s.toNat by omega, Int.pow_add]; rfl
  rw [e]
  generalize (2 : Int) ^ s.toNat = T at *
  have e1 : V * (6277101735386680763835789423207666416102355444464034512896 * T) = x * T * 6277101735386680763835789423207666416102355444464034512896 + t * T * 6277101735386680763835789423207666416102355444464034512896 := by rw [hV]; grind
  have e2 : t * T ≤ 0 * T := Int.mul_le_mul_of_nonneg_right (by omega) (by omega)
  have e3 : 0 ≤ t * T := Int.mul_nonneg ht.1 (by omega)
  rw [e1]
  generalize t * T = A at *
  generalize x * T = B at *
  omega

theorem nought_val {x0 x1 x2 x3 s : Int} (hx : Lim x0 x1 x2 x3) {init : List Limb} {x : Limb} (hp : init ++ [x] <+: limbsDown hx) (h3 : ∀ p ∈ init, p.1.2 = 0) (h5 : 0 ≤ s) (h6 : s < 64)
    (h7 : Hid (9223372036854775808 ≤ x.1.2 * 2 ^ s.toNat ∧ x.1.2 * 2 ^ s.toNat < 18446744073709551616)) :
    Hid (57896044618658097711785492504343953926634992332820282019728792003956564819968 ≤ val x0 x1 x2 x3 * 2 ^ (64 * (init.length : Int) + s).toNat ∧ val x0 x1 x2 x3 * 2 ^ (64 * (init.length : Int) + s).toNat < 115792089237316195423570985008687907853269984665640564039457584007913129639936) := by
  have h7 := h7.out
  unfold Hid
  obtain ⟨t, ht⟩ := hp
  unfold limbsDown at ht
  unfold Lim at hx
  match init, h3, ht with
  | [], h3, ht =>
    simp at ht
    obtain ⟨rfl, -⟩ := ht
    exact nought_0 (t := x0 + x1 * 18446744073709551616 + x2 * 340282366920938463463374607431768211456) h5 h6 h7 (by unfold val; simp only [limb]; omega) ⟨by omega, by omega⟩
  | [a], h3, ht =>
    simp at ht h3
    obtain ⟨rfl, rfl, -⟩ := ht
    simp only [limb] at h3
    exact nought_1 (t := x0 + x1 * 18446744073709551616) h5 h6 h7 (by unfold val; simp only [limb]; omega) ⟨by omega, by omega⟩
  | [a, b], h3, ht =>
    simp at ht h3
    obtain ⟨rfl, rfl, rfl, -⟩ := ht
    simp only [limb] at h3
    exact nought_2 (t := x0) h5 h6 h7 (by unfold val; simp only [limb]; omega) ⟨by omega, by omega⟩
  | [a, b, c], h3, ht =>
    simp at ht h3
    obtain ⟨rfl, rfl, rfl, rfl, -⟩ := ht
    simp only [limb] at h3
    exact nought_3 (t := 0) h5 h6 h7 (by unfold val; simp only [limb]; omega) ⟨by omega, by omega⟩
  | a :: b :: c :: d :: r, h3, ht =>
    have := congrArg List.length ht
    simp at this

set_option maxRecDepth 100000 in
set_option maxHeartbeats 4000000 in
theorem noughts_any (x0 x1 x2 x3 : Int) (hx : Lim x0 x1 x2 x3) (hpos : 0 < val x0 x1 x2 x3) (w : World) :
    Calls Try.prog 119 #[.agg #[.int .u64 x0, .int .u64 x1, .int .u64 x2, .int .u64 x3]] w fun e w' => ∃ k : Int, e = .returned (.int .i64 k) ∧ 0 ≤ k ∧ k < 256 ∧ Hid (57896044618658097711785492504343953926634992332820282019728792003956564819968 ≤ val x0 x1 x2 x3 * 2 ^ k.toNat ∧ val x0 x1 x2 x3 * 2 ^ k.toNat < 115792089237316195423570985008687907853269984665640564039457584007913129639936) ∧ Below w.heap.size w w' := by
  refine (callsIn_wide (n := 8)).1 ?_
  have hfn : ∀ f, Fence.wide.fn f := fun _ => trivial
  refine callsIn_of_wp_marks Try.func119 rfl trivial ?_ rfl
  simp only [Try.ntmps119, List.size_toArray, List.length_cons, List.length_nil, Nat.reduceAdd, Nat.reduceSub, Array.replicate_succ, Array.replicate_zero, List.push_toArray, List.append_toArray, List.nil_append, List.cons_append]
  gi_wp2_with (gi_at_call 117; refine (callsIn_wide.2 (down_any _ _ _ _ _)).mono ?_; rintro e w' ⟨rfl, rfl⟩)
  refine wpIn_rangeFunc_ownF rfl (by omega) (gf := 126) (lb := #[.pointer (some ⟨w.heap.size + 1 + 1, 0, none⟩)]) rfl trivial (enters_of Try.func126 (by kernel_rfl) rfl)
    (down_stops 7 (by omega) (w.heap.size + 1 + 1) hx 69 _ (by (repeat (first | (with_reducible exact al_at (by simp [pad_size])) | (with_reducible refine Eq.trans (dr_blk _ _) ?_) | (with_reducible refine Eq.trans (al_old (by first | omega | (simp [pad_size]; done) | (simp [pad_size]; omega))) ?_) | (with_reducible refine Eq.trans (pad_block (by first | omega | (simp [pad_size]; done) | (simp [pad_size]; omega)) (by first | omega | (simp [pad_size]; done) | (simp [pad_size]; omega))) ?_) | (with_reducible assumption))))) (fun h k => Eq.trans k h) (fun W l o o' hl h _ _ => ?hkb) (Below.refl _ _) (fun _ => rfl)
    (fun pre W => (W.heap[w.heap.size + 1]? = some (.cells #[.int .i64 (64 * (pre.length : Int))] 3 (0, 0)) ∧ (∀ p ∈ pre, p.1.2 = 0)) ∧ Below w.heap.size w W)
    (fun c pre W => (c = .exit 0 ∧ ∃ (init : List Limb) (x : Limb) (s : Int), pre = init ++ [x] ∧ (∀ p ∈ init, p.1.2 = 0) ∧ init.length < 4 ∧ 0 ≤ s ∧ s < 64 ∧ Hid (9223372036854775808 ≤ x.1.2 * 2 ^ s.toNat ∧ x.1.2 * 2 ^ s.toNat < 18446744073709551616) ∧ W.heap[w.heap.size + 1]? = some (.cells #[.int .i64 (64 * (init.length : Int) + s)] 3 (0, 0))) ∧ Below w.heap.size w W)
    (OwnFrom.and (Own.from (fun s A B row hs hg hr => ⟨block_kept hs.1 hg hr, hs.2⟩) _) (ownFrom_below (Nat.le_refl _) (by simp; omega)))
    (fun c => OwnFrom.and (Own.from (fun s A B row hs hg hr => by obtain ⟨h1, init, x, s, h2, h3, h4, h5, h6, h7, h8⟩ := hs; exact ⟨h1, init, x, s, h2, h3, h4, h5, h6, h7, block_kept h8 hg hr⟩) _) (ownFrom_below (Nat.le_refl _) (by simp; omega)))
    ⟨⟨by show _ = some (Obj.cells #[.int .i64 0] 3 (0, 0)); (repeat (first | (with_reducible exact al_at (by simp [pad_size])) | (with_reducible refine Eq.trans (dr_blk _ _) ?_) | (with_reducible refine Eq.trans (al_old (by first | omega | (simp [pad_size]; done) | (simp [pad_size]; omega))) ?_) | (with_reducible refine Eq.trans (pad_block (by first | omega | (simp [pad_size]; done) | (simp [pad_size]; omega)) (by first | omega | (simp [pad_size]; done) | (simp [pad_size]; omega))) ?_) | (with_reducible assumption))), by simp⟩, by (repeat (first | (with_reducible exact Below.refl _ _) | (with_reducible assumption) | (with_reducible apply bd) | (with_reducible apply ba) | (with_reducible refine bp ?_ (by first | omega | (simp [pad_size]; done) | (simp [pad_size]; omega)) _ _) | (with_reducible refine bs ?_ (by first | omega | (simp [pad_size]; done) | (simp [pad_size]; omega)) _) | (with_reducible refine bt ?_ (by assumption))))⟩
    (fun x => { tmps := #[.agg #[.int .u64 x0, .int .u64 x1, .int .u64 x2, .int .u64 x3], .pointer (some ⟨w.heap.size, 0, none⟩), .int .i64 0, .pointer (some ⟨w.heap.size + 1, 0, none⟩), undef, .int .u64 x.1.2, .agg #[.int .u64 x0, .int .u64 x1, .int .u64 x2, .int .u64 x3], .func (.func 126) #[] #[.pointer (some ⟨w.heap.size + 1 + 1, 0, none⟩)], .int .i64 (x.1.1 : Int), .int .u64 x.1.2, undef, undef, undef, undef, undef, undef, undef], defers := [] }) ?assign ?body ?done ?stop
  case hkb =>
    unfold KpB
    rw [World.putObj_heap_other]
    intro e; simp at hl; omega
  case assign =>
    intro l x W K hK
    gi_wp2
    exact hK
  case body =>
    rintro l pre ⟨⟨i, v⟩, hi, hv⟩ W ⟨⟨hb1, hp⟩, hB⟩ hlen
    obtain ⟨c1, f1⟩ := cells_of_block hb1
    dsimp only at hi hv
    have hmx : Try.prog.follows .mixedOrders = true := by kernel_rfl
    have hb64 : bitLen (0 : Int).toNat = 0 := rfl
    have hl0 : 0 ≤ 64 * (pre.length : Int) := by omega
    have hl1 : 64 * (pre.length : Int) ≤ 192 := by omega
    by_cases hv0 : v = 0
    · subst hv0
      gi_wp2
      gi_region_with_o (gi_at_call 128; refine (CallsIn.inRound l (callsIn_wide.2 (lead64_any 0 (by omega) (by omega) _))).mono ?_; rintro e w' ⟨rfl, rfl⟩; rw [hb64])
      all_goals gi_wp2
      all_goals exact ⟨(KeepsOthers.setCell _ _ _).trans (KeepsOthers.drew _), kp_set (by omega), ⟨by have := block_set (i := 0) (.int .i64 (64 * (pre.length : Int) + 64)) hb1; rw [dr_blk]; simpa [Int.mul_add] using this, fun p hpm => (List.mem_append.1 hpm).elim (hp p) (fun e => by simp at e; subst e; rfl)⟩, (hB.setCell (p := ⟨w.heap.size + 1, 0, none⟩) (by simp) _).drew⟩
    · have hvb : (v != 0) = true := by simpa using hv0
      gi_wp2
      gi_region_with_o (gi_at_call 128; refine (CallsIn.inRound l (callsIn_wide.2 (lead64_pos v (by omega) hv.2 _))).mono ?_; rintro e w' ⟨s, rfl, hs0, hs1, hs2, rfl⟩)
      all_goals gi_wp2
      all_goals exact ⟨(KeepsOthers.setCell _ _ _).trans (KeepsOthers.drew _), ⟨rfl, pre, _, s, rfl, hp, hlen, hs0, hs1, hs2, by have := block_set (i := 0) (.int .i64 (64 * (pre.length : Int) + s)) hb1; rw [dr_blk]; simpa using this⟩, (hB.setCell (p := ⟨w.heap.size + 1, 0, none⟩) (by simp) _).drew⟩
  case done =>
    rintro D ys W hD rfl ⟨⟨hb1, hp⟩, hB⟩ hK
    exfalso
    simp [limbsDown, limb] at hp
    obtain ⟨rfl, rfl, rfl, rfl⟩ := hp
    rw [val0] at hpos; omega
  case stop =>
    rintro D c pre W hD hpre ⟨⟨rfl, init, x, s, rfl, h3, h4, h5, h6, h7, h8⟩, hB⟩ hK
    obtain ⟨c1, f1⟩ := cells_of_block h8
    gi_wp2
    refine ⟨by simp, .inl ⟨_, _, rfl, run_takeDeferred hK, ?_⟩⟩
    refine ⟨.int .i64 (64 * (init.length : Int) + s), ?_, _, rfl, by omega, by omega, nought_val hx hpre h3 h5 h6 h7, hB.trans (belowK_b (w := w) (Nat.le_refl _) W D _ _ (by simp at hD; omega) hK rfl rfl)⟩
    simp [results, Try.results119, go_sem]
end Go.Proofs.Ytmfnfnegnfpkiaa
