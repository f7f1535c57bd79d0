
/- Several texts, one behind the other: C15, C16, C18, I, J, J2, PA, PL1, PL2. -/
import Derived.Test.YtmfnfnegnfpkiaaC8
import Derived.Test.YtmfnfnegnfpkiaaC7
import Derived.Test.YtmfnfnegnfpkiaaU
import Derived.Test.YtmfnfnegnfpkiaaB
import Derived.Deep.Light
import Derived.Test.YtmfnfnegnfpkiaaC
import Derived.Test.YtmfnfnegnfpkiaaR
/- Lists that are purses' may be. -/
set_option linter.unusedSimpArgs false
set_option linter.unusedVariables false
set_option maxRecDepth 20000
namespace Go.Proofs.Ytmfnfnegnfpkiaa
open Go.RowKit

theorem lst_right {z : Nat → Cn} (hz : Purse z) : ∀ k, k ≤ 8 → RightP (lst z k)
  | 0, _ => by intro i x hi; simp [lst] at hi
  | k + 1, hk => by
    have ih := lst_right hz k (by omega)
    intro i x hi
    simp only [lst] at hi ⊢
    by_cases hlt : i < (lst z k).length
    · rw [List.getElem?_append_left hlt] at hi
      obtain ⟨h1, h2, h3⟩ := ih i x hi
      refine ⟨h1, h2, fun j y hj hy => h3 j y hj ?_⟩
      rw [List.getElem?_append_left (by omega)] at hy
      exact hy
    · rw [List.getElem?_append_right (by omega)] at hi
      have hm : x ∈ oneL (z k) := List.mem_of_getElem? hi
      have hi0 : i - (lst z k).length = 0 := by
        have h1 : (oneL (z k)).length ≤ 1 := by unfold oneL; split <;> simp
        have h2 := (List.getElem?_eq_some_iff.1 hi).1
        omega
      unfold oneL at hm
      split at hm
      · simp at hm
      · rename_i hq
        rw [List.mem_singleton] at hm
        subst hm
        refine ⟨?_, by simpa using hq, fun j y hj hy => ?_⟩
        · rw [(hz k (by omega)).2]; omega
        · rw [List.getElem?_append_left (by omega)] at hy
          obtain ⟨e, he, rfl, -⟩ := lst_mem k y (List.mem_of_getElem? hy)
          rw [(hz e (by omega)).2, (hz k (by omega)).2]; omega
theorem rightL_any {v : Value} {z : Nat → Cn} (hz : Purse z) (w : World) (h : IsCoins w v (lst z 8)) :
    Calls Try.prog 97 #[v] w fun e w' => e = .returned (.bool true) ∧ Below w.heap.size w w' := by
  have := right_any w h (lst_wf hz)
  rwa [right_eq (lst_right hz 8 (Nat.le_refl _)) (lst_wf hz)] at this
end Go.Proofs.Ytmfnfnegnfpkiaa

/- Coins that are answered, as rows of their own. -/
namespace Go.Proofs.Ytmfnfnegnfpkiaa
open Go.RowKit

theorem grown_below {W W' : World} (hb : Below W.heap.size W W') : W.grownBy W' none := ⟨hb.os, hb.tape, hb.output, hb.size, fun k hk _ => hb.block k hk⟩
theorem own_below {W W' : World} {base : Nat} {e : TypeId} {size : Nat} {v : Value} {n : Nat} {xs : List Value} (h : W.ownsRow base e size v n xs) (hb : Below W.heap.size W W') : W'.ownsRow base e size v n xs :=
  h.kept (grown_below hb) (by cases hv : v.ownBlock <;> simp)
theorem own_ne {W : World} {b b' : Nat} {e e' : TypeId} {s s' : Nat} {v v' : Value} {n n' : Nat} {xs xs' : List Value} (h : W.ownsRow b e s v n xs) (h' : W.ownsRow b' e' s' v' n' xs') (hne : e ≠ e') : v.ownBlock = none ∨ v.ownBlock ≠ v'.ownBlock := by
  rcases h.2 with ⟨rfl, _⟩ | ⟨g, cap, cur, rfl, _, hg, _⟩
  · exact .inl rfl
  · rcases h'.2 with ⟨rfl, _⟩ | ⟨g', cap', cur', rfl, _, hg', _⟩
    · exact .inr (by simp [Value.ownBlock])
    · refine .inr (fun ee => ?_)
      have : g = g' := by simpa [Value.ownBlock] using ee
      subst this
      rw [hg] at hg'
      simp at hg'
      exact hne hg'.2
theorem own_slice {W : World} {base : Nat} {e : TypeId} {size : Nat} {v : Value} {k : Nat} {xs : List Value} (h : W.ownsRow base e size v k xs) : v.oneCell' = true := by
  rcases h.2 with ⟨rfl, rfl⟩ | ⟨g, cap, _, rfl, _⟩ <;> rfl
theorem not_rowC {W : World} {B : Nat} {c : Array Value} {t e : TypeId} (h : W.heap[B]? = some (.cells c t (0, 0))) (hte : t ≠ e) {base size k : Nat} {v : Value} {xs : List Value} (hr : W.ownsRow base e size v k xs) : some B ≠ v.ownBlock := by
  rcases hr.2 with ⟨rfl, _⟩ | ⟨g, cap, cur, rfl, _, hgb, _⟩
  · simp [Value.ownBlock]
  · intro e'
    obtain rfl : B = g := by simpa [Value.ownBlock] using e'
    have := h.symm.trans hgb
    simp at this
    exact hte this.2
theorem row_sliceC {W : World} {base : Nat} {e : TypeId} {size : Nat} {v : Value} {k : Nat} {xs : List Value} (h : W.ownsRow base e size v k xs) : ∃ a cap, v = .slice a k cap := by
  rcases h.2 with ⟨rfl, rfl⟩ | ⟨g, cap, _, rfl, _⟩
  · exact ⟨_, _, rfl⟩
  · exact ⟨_, _, rfl⟩
theorem lst_same {s z : Nat → Cn} (hz : Purse z) (h : ∀ d, d < 8 → LimC (s d) ∧ (s d).d = d ∧ vl (s d) = vl (z d)) : lst s 8 = lst z 8 :=
  lst_congr 8 (fun d hd => (cn_one (h d hd).1 (h d hd).2.1 (h d hd).2.2).trans (cn_one (hz d hd).1 (hz d hd).2 rfl).symm)
theorem nil_coins (W : World) : IsCoins W (.slice none 0 0) (lst zeroP 8) := .inl ⟨lst_zero 8, none, 0, rfl⟩

theorem restC_own {va : Value} {z : Nat → Cn} (hz : Purse z) (w : World) (hA : IsCoins w va (lst z 8)) :
    Calls Try.prog 56 #[va, .slice none 0 0] w fun e w' => ∃ u, e = .returned u ∧ w'.ownsRow w.heap.size 71 5 u (lst z 8).length (cellsL (lst z 8)) ∧ Below w.heap.size w w' := by
  refine (coinsRest_any w hA (nil_coins w) (amt_lim hz) (amt_lim purse_zero)).mono ?_
  rintro e w' ⟨s, v, rfl, hs, hown, hb⟩
  refine ⟨v, rfl, ?_, hb⟩
  rw [← lst_same (s := s) hz (fun d hd => by have := hs d hd; have hl := vl_lo hz hd; rw [amt_full hz hd, amt_full purse_zero hd, vl_zero] at this; refine ⟨this.1, this.2.1, this.2.2.trans ?_⟩; unfold restI; split <;> omega)]
  exact hown
set_option maxHeartbeats 2000000 in
theorem addC_own {va : Value} {z : Nat → Cn} (hz : Purse z) (w : World) (hA : IsCoins w va (lst z 8)) :
    Calls Try.prog 82 #[va, .slice none 0 0] w fun e w' => ∃ u, e = .returned (.tuple #[u, .int .i64 0]) ∧ w'.ownsRow w.heap.size 71 5 u (lst z 8).length (cellsL (lst z 8)) ∧ Below w.heap.size w w' := by
  have hof : ∀ (x0 x1 x2 x3 y0 y1 y2 y3 : Int) (W : World), Lim x0 x1 x2 x3 → Lim y0 y1 y2 y3 →
      Below (w.alloc (.cells #[.func (.func 104) #[] #[]] 118)).heap.size (w.alloc (.cells #[.func (.func 104) #[] #[]] 118)) W →
      Calls Try.prog 104 (#[.agg #[.int .u64 x0, .int .u64 x1, .int .u64 x2, .int .u64 x3], .agg #[.int .u64 y0, .int .u64 y1, .int .u64 y2, .int .u64 y3]] ++ #[]) W fun e w' =>
        ∃ z0 z1 z2 z3 c : Int, e = .returned (.tuple #[.agg #[.int .u64 z0, .int .u64 z1, .int .u64 z2, .int .u64 z3], .int .i64 c]) ∧ Lim z0 z1 z2 z3 ∧ AddS (val x0 x1 x2 x3) (val y0 y1 y2 y3) (val z0 z1 z2 z3) c ∧ Below W.heap.size W w' :=
    fun x0 x1 x2 x3 y0 y1 y2 y3 W hx hy _ => add_any x0 x1 x2 x3 y0 y1 y2 y3 hx hy W
  have hB := nil_coins w
  go_enter Try.func82, Try.ntmps82
  go_wp2_with (first
    | (go_at_call 87; refine (ofEachM_any _ _ rfl).mono ?_; rintro e w1 ⟨rfl, rfl⟩)
    | (go_at_call 106; refine (ofEach_any 104 #[] AddS w.heap.size _ (hA.below (by (repeat (first | (with_reducible exact Below.refl _ _) | (with_reducible assumption) | (with_reducible apply bd) | (with_reducible apply ba) | (with_reducible refine bp ?_ (by first | omega | (simp [pad_size]; done) | (simp [pad_size]; omega)) _ _) | (with_reducible refine bs ?_ (by first | omega | (simp [pad_size]; done) | (simp [pad_size]; omega)) _) | (with_reducible refine bt ?_ (by assumption)))))) (hB.below (by (repeat (first | (with_reducible exact Below.refl _ _) | (with_reducible assumption) | (with_reducible apply bd) | (with_reducible apply ba) | (with_reducible refine bp ?_ (by first | omega | (simp [pad_size]; done) | (simp [pad_size]; omega)) _ _) | (with_reducible refine bs ?_ (by first | omega | (simp [pad_size]; done) | (simp [pad_size]; omega)) _) | (with_reducible refine bt ?_ (by assumption)))))) (amt_lim hz) (amt_lim purse_zero) (by (repeat (first | (with_reducible exact al_at (by simp [pad_size])) | (with_reducible refine Eq.trans (dr_blk _ _) ?_) | (with_reducible refine Eq.trans (al_old (by first | omega | (simp [pad_size]; done) | (simp [pad_size]; omega))) ?_) | (with_reducible refine Eq.trans (pad_block (by first | omega | (simp [pad_size]; done) | (simp [pad_size]; omega)) (by first | omega | (simp [pad_size]; done) | (simp [pad_size]; omega))) ?_) | (with_reducible assumption)))) (enters_of Try.func104 (by kernel_rfl) rfl) hof).mono ?_; clear hof; rintro e w1 (⟨s, v, rfl, hs, hown, hb⟩ | ⟨kk, c, z0, hk, hc, hS, rfl, hb⟩)))
  · go_ret2
    refine ⟨v, rfl, ?_, bt (by (repeat (first | (with_reducible exact Below.refl _ _) | (with_reducible assumption) | (with_reducible apply bd) | (with_reducible apply ba) | (with_reducible refine bp ?_ (by first | omega | (simp [pad_size]; done) | (simp [pad_size]; omega)) _ _) | (with_reducible refine bs ?_ (by first | omega | (simp [pad_size]; done) | (simp [pad_size]; omega)) _) | (with_reducible refine bt ?_ (by assumption))))) hb⟩
    rw [← lst_same (s := s) hz (fun d hd => by
      have := hs d hd; have hl := vl_lo hz hd; rw [amt_full hz hd, amt_full purse_zero hd, vl_zero] at this
      refine ⟨this.1, this.2.1, ?_⟩
      rcases this.2.2 with ⟨-, -, e⟩ | ⟨-, e, -⟩ <;> omega)]
    exact row_base hown (by simp)
  · exfalso
    have hl := vl_lo hz hk
    rw [amt_full hz hk, amt_full purse_zero hk, vl_zero] at hS
    rcases hS with ⟨-, e, -⟩ | ⟨e, -⟩ <;> omega
end Go.Proofs.Ytmfnfnegnfpkiaa

/- Right coins as a purse: plain facts. -/
namespace Go.Proofs.Ytmfnfnegnfpkiaa
open Go.RowKit

/-- The list of a purse from one place on. -/
def lf (z : Nat → Cn) : Nat → Nat → List Cn
  | 0, _ => []
  | k + 1, m => oneL (z m) ++ lf z k (m + 1)
theorem lf_lst (z : Nat → Cn) : ∀ k m, lst z (m + k) = lst z m ++ lf z k m
  | 0, m => by simp [lf]
  | k + 1, m => by
    have e : m + (k + 1) = (m + 1) + k := by omega
    rw [e, lf_lst z k (m + 1)]
    simp [lst, lf]
theorem lf_congr {z y : Nat → Cn} : ∀ k m, (∀ d, m ≤ d → z d = y d) → lf z k m = lf y k m
  | 0, _, _ => rfl
  | k + 1, m, h => by
    simp only [lf]
    rw [h m (Nat.le_refl _), lf_congr k (m + 1) (fun d hd => h d (by omega))]
theorem amt_cons_ne {x : Cn} {l : List Cn} {d : Int} (h : x.d ≠ d) : amt (x :: l) d = amt l d := by
  unfold amt
  rw [List.find?_cons_of_neg (by simpa using h)]
theorem amt_cons_eq {x : Cn} {l : List Cn} : amt (x :: l) x.d = x := by
  unfold amt
  rw [List.find?_cons_of_pos (by simp)]
  rfl
theorem right_cons {m : Int} {x : Cn} {l : List Cn} (h : rightFrom m (x :: l) = true) : m ≤ x.d ∧ x.d < 8 ∧ eq4 x.a x.b x.c x.e 0 0 0 0 = false ∧ rightFrom (x.d + 1) l = true := by
  unfold rightFrom at h
  split at h
  · cases h
  · split at h
    · cases h
    · split at h
      · cases h
      · rename_i h1 h2 h3
        exact ⟨by omega, by omega, by simpa using h3, h⟩
theorem right_up : ∀ {m k : Int} {l : List Cn}, rightFrom m l = true → (∀ x, l.head? = some x → k ≤ x.d) → rightFrom k l = true
  | _, _, [], _, _ => rfl
  | m, k, x :: l, h, hk => by
    obtain ⟨h1, h2, h3, h4⟩ := right_cons h
    have := hk x rfl
    unfold rightFrom
    rw [if_neg (by omega), if_neg (by omega), h3]
    simpa using h4
theorem amt_low : ∀ {m : Int} {l : List Cn} {d : Int}, rightFrom m l = true → d < m → amt l d = ⟨d, 0, 0, 0, 0⟩
  | _, [], _, _, _ => rfl
  | m, x :: l, d, h, hd => by
    obtain ⟨h1, h2, h3, h4⟩ := right_cons h
    rw [amt_cons_ne (by omega)]
    exact amt_low h4 (by omega)
theorem lf_amt : ∀ (k m : Nat) (l : List Cn), rightFrom (m : Int) l = true → m + k = 8 → lf (fun d => amt l d) k m = l
  | 0, m, [], _, _ => rfl
  | 0, m, x :: l, h, hm => by
    obtain ⟨h1, h2, -, -⟩ := right_cons h
    omega
  | k + 1, m, [], _, hm => by
    simp only [lf]
    have ih := lf_amt k (m + 1) [] rfl (by omega)
    rw [ih]
    simp [amt, oneL, eq4]
  | k + 1, m, x :: l, h, hm => by
    obtain ⟨h1, h2, h3, h4⟩ := right_cons h
    simp only [lf]
    by_cases e : x.d = (m : Int)
    · have e2 : amt (x :: l) (m : Int) = x := by rw [← e]; exact amt_cons_eq
      rw [e2, lf_congr (y := fun d => amt l d) k (m + 1) (fun d hd => amt_cons_ne (by omega))]
      have h4' : rightFrom ((m + 1 : Nat) : Int) l = true := by
        have e3 : ((m + 1 : Nat) : Int) = x.d + 1 := by omega
        rw [e3]; exact h4
      rw [lf_amt k (m + 1) l h4' (by omega)]
      unfold oneL
      rw [h3]
      rfl
    · have e2 : amt (x :: l) (m : Int) = ⟨(m : Int), 0, 0, 0, 0⟩ := by
        rw [amt_cons_ne e]
        exact amt_low h4 (by omega)
      have h5 : rightFrom ((m + 1 : Nat) : Int) (x :: l) = true := right_up h (fun y hy => by injection hy with hy; subst hy; omega)
      rw [e2, lf_amt k (m + 1) (x :: l) h5 (by omega)]
      simp [oneL, eq4]
/-- Coins that may be are the list of a purse. -/
theorem right_lst {l : List Cn} (h : rightFrom 0 l = true) : lst (fun d => amt l d) 8 = l := by
  have := lf_lst (fun d => amt l d) 8 0
  rw [Nat.zero_add] at this
  rw [this, lf_amt 8 0 l h rfl]
  rfl
theorem amt_d (l : List Cn) (d : Int) : (amt l d).d = d := by
  unfold amt
  cases hf : l.find? (fun x => x.d == d) with
  | none => rfl
  | some x => simpa using List.find?_some hf
theorem purse_amt {l : List Cn} (hwf : ∀ x ∈ l, CnWf x) : Purse (fun d => amt l d) := fun d _ => ⟨lim_amt (fun x hx => (hwf x hx).2) d, amt_d l d⟩

end Go.Proofs.Ytmfnfnegnfpkiaa

/- math/bits.Len64, LeadingZeros64. -/
namespace Go.Proofs.Ytmfnfnegnfpkiaa
open Go.RowKit

theorem ret_int {k : IntKind} {a b : Int} (h : a = b) : Ending.returned (.int k a) = .returned (.int k b) := by rw [h]

theorem len_fin (s : Nat) (x y : Int) (hx : 0 ≤ x) (e : y = x / (2 ^ s : Nat)) (h1 : y < 256) (h2 : s = 0 ∨ 1 ≤ y) (hs : s ≤ 56) : wrap64 ((s : Int) + wrap64 (bitLen y.toNat : Int)) = (bitLen x.toNat : Int) := by
  have hy : 0 ≤ y := by rw [e]; exact Int.ediv_nonneg hx (Int.natCast_nonneg _)
  have hb : bitLen y.toNat ≤ 8 := bitLen_le8 _ (by omega)
  have key : bitLen x.toNat = s + bitLen y.toNat := by
    rcases h2 with rfl | h2
    · have : y = x := by rw [e]; simp
      rw [this]; omega
    · have ey : y.toNat = x.toNat / 2 ^ s := by
        obtain ⟨n, rfl⟩ := Int.eq_ofNat_of_zero_le hx
        have : y = ((n / 2 ^ s : Nat) : Int) := by rw [e]; simp
        rw [this]; exact Int.toNat_natCast _
      rw [ey]
      exact bitLen_shift _ _ (by rw [← ey]; omega)
  unfold wrap64
  omega

set_option maxRecDepth 1000000 in
set_option maxHeartbeats 4000000 in
theorem len64_any (x : Int) (h1 : 0 ≤ x) (h2 : x < 18446744073709551616) (w : World) :
    Calls Try.prog 131 #[.int .u64 x] w fun e w' => e = .returned (.int .i64 (bitLen x.toNat)) ∧ w' = w := by
  go_enter Try.func131, Try.ntmps131
  go_wp2
  all_goals (go_ret; refine ⟨ret_int ?_, rfl⟩; go_light; rw [len8tab_get])
  · exact len_fin 56 x _ h1 (by simp; omega) (by omega) (by omega) (by omega)
  · exact len_fin 48 x _ h1 (by simp; omega) (by omega) (by omega) (by omega)
  · exact len_fin 40 x _ h1 (by simp; omega) (by omega) (by omega) (by omega)
  · exact len_fin 32 x _ h1 (by simp) (by omega) (by omega) (by omega)
  · exact len_fin 24 x _ h1 (by simp; omega) (by omega) (by omega) (by omega)
  · exact len_fin 16 x _ h1 (by simp) (by omega) (by omega) (by omega)
  · exact len_fin 8 x _ h1 (by simp) (by omega) (by omega) (by omega)
  · have := len_fin 0 x x h1 (by simp) (by omega) (by omega) (by omega)
    simpa using this

theorem bitLen_le64 {x : Int} (h1 : 0 ≤ x) (h2 : x < 18446744073709551616) : bitLen x.toNat ≤ 64 := by
  unfold bitLen
  split
  · omega
  · rename_i h0
    have := (Nat.log2_lt h0).2 (show x.toNat < 2 ^ 64 by omega)
    omega

set_option maxHeartbeats 400000 in
theorem lead64_any (x : Int) (h1 : 0 ≤ x) (h2 : x < 18446744073709551616) (w : World) :
    Calls Try.prog 128 #[.int .u64 x] w fun e w' => e = .returned (.int .i64 (64 - (bitLen x.toNat : Int))) ∧ w' = w := by
  have hb := bitLen_le64 h1 h2
  go_enter Try.func128, Try.ntmps128
  go_wp2_with (go_at_call 131; refine (len64_any _ h1 h2 _).mono ?_; rintro e w' ⟨rfl, rfl⟩)
  go_ret
  exact ⟨rfl, rfl⟩
end Go.Proofs.Ytmfnfnegnfpkiaa

/- num.shiftLeft, shiftRight. -/
namespace Go.Proofs.Ytmfnfnegnfpkiaa
open Go.RowKit

theorem pow_split (t : Nat) (ht : t ≤ 63) : (2 : Int) ^ t * 2 ^ (64 - t) = 18446744073709551616 ∧ (0 : Int) < 2 ^ t ∧ (0 : Int) < 2 ^ (64 - t) ∧ (2 : Int) ^ t ≤ 9223372036854775808 := by
  refine ⟨?_, Int.pow_pos (by omega), Int.pow_pos (by omega), ?_⟩
  · rw [← Int.pow_add, show t + (64 - t) = 64 by omega]; rfl
  · calc (2 : Int) ^ t ≤ 2 ^ 63 := by exact_mod_cast Nat.pow_le_pow_right (by omega) ht
      _ = 9223372036854775808 := by rfl

/-- A part to the left: what stays, and what goes out of it. -/
theorem shl_part (x r : Int) (hx : 0 ≤ x ∧ x < 18446744073709551616) (hr : 0 ≤ r ∧ r < 64) :
    ∃ h l : Int, IntKind.u64.wrap (x * 2 ^ r.toNat) = l ∧ x / 2 ^ (64 - r).toNat = h ∧ Hid (x * 2 ^ r.toNat = h * 18446744073709551616 + l) ∧ (0 ≤ l ∧ l < 18446744073709551616) ∧ Hid (l % 2 ^ r.toNat = 0) ∧ 0 ≤ h ∧ Hid (h < 2 ^ r.toNat) ∧ h < 9223372036854775808 := by
  obtain ⟨t, rfl⟩ := Int.eq_ofNat_of_zero_le hr.1
  have ht : t ≤ 63 := by omega
  have e64 : ((64 : Int) - (t : Int)).toNat = 64 - t := by omega
  obtain ⟨hTU, hT, hU, hT2⟩ := pow_split t ht
  rw [e64, Int.toNat_natCast, IntKind.wrap_u64]
  generalize hTe : (2 : Int) ^ t = T at *
  generalize hUe : (2 : Int) ^ (64 - t) = U at *
  have hd := Int.emod_add_mul_ediv x U
  have hm0 := Int.emod_nonneg x (show U ≠ 0 by omega)
  have hm1 := Int.emod_lt_of_pos x hU
  have hq0 : 0 ≤ x / U := Int.ediv_nonneg hx.1 (by omega)
  have hq1 : x / U < T := by
    apply Int.ediv_lt_of_lt_mul hU
    rw [hTU]; exact hx.2
  generalize x / U = h at *
  generalize x % U = l at *
  have e1 : x * T = h * 18446744073709551616 + l * T := by
    rw [← hd, Int.add_mul, Int.mul_right_comm, Int.mul_comm U T, hTU]
    rw [Int.mul_comm 18446744073709551616 h]; omega
  have e2 : 0 ≤ l * T := Int.mul_nonneg hm0 (by omega)
  have e3 : l * T < 18446744073709551616 := by
    rw [← hTU, Int.mul_comm T U]
    exact Int.mul_lt_mul_of_pos_right hm1 hT
  refine ⟨h, l * T, ?_, rfl, e1, ⟨e2, e3⟩, show _ = _ from Int.mul_emod_left l T, hq0, hq1, by omega⟩
  rw [e1]
  omega

theorem shl_or {a b r : Int} (hr : 0 ≤ r ∧ r < 64) (ha : 0 ≤ a ∧ a < 18446744073709551616) (hm : Hid (a % 2 ^ r.toNat = 0)) (hb : 0 ≤ b) (hb1 : Hid (b < 2 ^ r.toNat)) (hb2 : b < 9223372036854775808) : bits .or .u64 a b = a + b ∧ a + b < 18446744073709551616 := by
  have h1 : bits .or .u64 a b = a + b := bits_join .u64 64 (by decide) (fun n h0 h1 => by rw [IntKind.wrap_u64]; omega) r.toNat a b ha.1 hm.out (by simpa using ha.2) hb hb1.out (by simp; omega)
  refine ⟨h1, ?_⟩
  obtain ⟨t, rfl⟩ := Int.eq_ofNat_of_zero_le hr.1
  have ht : t ≤ 63 := by omega
  obtain ⟨hTU, hT, hU, hT2⟩ := pow_split t ht
  have hm := hm.out; have hb1 := hb1.out
  rw [Int.toNat_natCast] at hm hb1
  generalize hTe : (2 : Int) ^ t = T at *
  generalize hUe : (2 : Int) ^ (64 - t) = U at *
  obtain ⟨q, rfl⟩ := Int.dvd_of_emod_eq_zero hm
  have hq : q < U := by
    apply Int.lt_of_mul_lt_mul_left (a := T) _ (by omega)
    rw [hTU]; exact ha.2
  have : T * (q + 1) ≤ T * U := Int.mul_le_mul_of_nonneg_left (by omega) (by omega)
  rw [hTU, Int.mul_add] at this
  omega

/-- What a shift to the left leaves, as a whole number. -/
def ShlS (x k z : Int) : Prop := ∃ q : Int, 0 ≤ q ∧ x * 2 ^ k.toNat = z + q * 115792089237316195423570985008687907853269984665640564039457584007913129639936

set_option maxHeartbeats 2000000 in
theorem shl0 (x0 x1 x2 x3 k : Int) (hx : Lim x0 x1 x2 x3) (hk : k / 64 = 0) (w : World) :
    Calls Try.prog 120 #[.agg #[.int .u64 x0, .int .u64 x1, .int .u64 x2, .int .u64 x3], .int .i64 k] w fun e w' => ∃ z0 z1 z2 z3 : Int, e = .returned (.agg #[.int .u64 z0, .int .u64 z1, .int .u64 z2, .int .u64 z3]) ∧ Lim z0 z1 z2 z3 ∧ ShlS (val x0 x1 x2 x3) k (val z0 z1 z2 z3) ∧ Below w.heap.size w w' := by
  obtain ⟨hx0, hx1, hx2, hx3⟩ := hx
  obtain ⟨r, hr⟩ : ∃ r, k % 64 = r := ⟨_, rfl⟩
  have hr0 : 0 ≤ r := by omega
  have hr1 : r < 64 := by omega
  have hk0 : 0 ≤ k := by omega
  have hk1 : k < 256 := by omega
  have kk : Hid (k = 0 + r) := by unfold Hid; omega
  obtain ⟨h0, l0, s0, v0, m0, b0, d0, g0, f0, t0⟩ := shl_part x0 r hx0 ⟨hr0, hr1⟩
  obtain ⟨h1, l1, s1, v1, m1, b1, d1, g1, f1, t1⟩ := shl_part x1 r hx1 ⟨hr0, hr1⟩
  obtain ⟨h2, l2, s2, v2, m2, b2, d2, g2, f2, t2⟩ := shl_part x2 r hx2 ⟨hr0, hr1⟩
  obtain ⟨h3, l3, s3, v3, m3, b3, d3, g3, f3, t3⟩ := shl_part x3 r hx3 ⟨hr0, hr1⟩
  obtain ⟨o1, u1⟩ := shl_or ⟨hr0, hr1⟩ b1 d1 g0 f0 t0
  obtain ⟨o2, u2⟩ := shl_or ⟨hr0, hr1⟩ b2 d2 g1 f1 t1
  obtain ⟨o3, u3⟩ := shl_or ⟨hr0, hr1⟩ b3 d3 g2 f2 t2
  have o1' : Hid (bits .or .u64 l1 h0 = l1 + h0) := o1
  have o2' : Hid (bits .or .u64 l2 h1 = l2 + h1) := o2
  have o3' : Hid (bits .or .u64 l3 h2 = l3 + h2) := o3
  go_enter Try.func120, Try.ntmps120
  go_wp2
  apply wp_loop_rounds 5
  simp only [Code.rounds]
  go_wp2
  go_region
  go_wp2
  go_region
  go_wp2
  go_region
  go_wp2
  refine bodyPost_ret (v := .agg #[.int .u64 l0, .int .u64 (l1 + h0), .int .u64 (l2 + h1), .int .u64 (l3 + h2)]) (by simp only [results, Try.results120]; go_simp) rfl ⟨l0, (l1 + h0), (l2 + h1), (l3 + h2), rfl, ⟨⟨by omega, by omega⟩, ⟨by omega, by omega⟩, ⟨by omega, by omega⟩, ⟨by omega, by omega⟩⟩, ?_, ?_⟩
  · have ek : (2 : Int) ^ k.toNat = 1 * 2 ^ r.toNat := by
      rw [kk.out, show ((0 : Int) + r).toNat = 0 + r.toNat by omega, Int.pow_add]; rfl
    have e : val x0 x1 x2 x3 * 2 ^ k.toNat = (x0 * 2 ^ r.toNat) * 1 + (x1 * 2 ^ r.toNat) * (1 * 18446744073709551616) + (x2 * 2 ^ r.toNat) * (1 * 340282366920938463463374607431768211456) + (x3 * 2 ^ r.toNat) * (1 * 6277101735386680763835789423207666416102355444464034512896) := by
      rw [ek]; unfold val
      generalize (2 : Int) ^ r.toNat = T
      grind
    have e0 := m0.out
    have e1 := m1.out
    have e2 := m2.out
    have e3 := m3.out
    refine ⟨h3, ?_, ?_⟩
    · omega
    · rw [e]; unfold val
      generalize x0 * 2 ^ r.toNat = p0 at *
      generalize x1 * 2 ^ r.toNat = p1 at *
      generalize x2 * 2 ^ r.toNat = p2 at *
      generalize x3 * 2 ^ r.toNat = p3 at *
      omega
  · (repeat (first | (with_reducible exact Below.refl _ _) | (with_reducible assumption) | (with_reducible apply bd) | (with_reducible apply ba) | (with_reducible refine bp ?_ (by first | omega | (simp [pad_size]; done) | (simp [pad_size]; omega)) _ _) | (with_reducible refine bs ?_ (by first | omega | (simp [pad_size]; done) | (simp [pad_size]; omega)) _) | (with_reducible refine bt ?_ (by assumption))))

set_option maxHeartbeats 2000000 in
theorem shl1 (x0 x1 x2 x3 k : Int) (hx : Lim x0 x1 x2 x3) (hk : k / 64 = 1) (w : World) :
    Calls Try.prog 120 #[.agg #[.int .u64 x0, .int .u64 x1, .int .u64 x2, .int .u64 x3], .int .i64 k] w fun e w' => ∃ z0 z1 z2 z3 : Int, e = .returned (.agg #[.int .u64 z0, .int .u64 z1, .int .u64 z2, .int .u64 z3]) ∧ Lim z0 z1 z2 z3 ∧ ShlS (val x0 x1 x2 x3) k (val z0 z1 z2 z3) ∧ Below w.heap.size w w' := by
  obtain ⟨hx0, hx1, hx2, hx3⟩ := hx
  obtain ⟨r, hr⟩ : ∃ r, k % 64 = r := ⟨_, rfl⟩
  have hr0 : 0 ≤ r := by omega
  have hr1 : r < 64 := by omega
  have hk0 : 0 ≤ k := by omega
  have hk1 : k < 256 := by omega
  have kk : Hid (k = 64 + r) := by unfold Hid; omega
  obtain ⟨h0, l0, s0, v0, m0, b0, d0, g0, f0, t0⟩ := shl_part x0 r hx0 ⟨hr0, hr1⟩
  obtain ⟨h1, l1, s1, v1, m1, b1, d1, g1, f1, t1⟩ := shl_part x1 r hx1 ⟨hr0, hr1⟩
  obtain ⟨h2, l2, s2, v2, m2, b2, d2, g2, f2, t2⟩ := shl_part x2 r hx2 ⟨hr0, hr1⟩
  obtain ⟨o1, u1⟩ := shl_or ⟨hr0, hr1⟩ b1 d1 g0 f0 t0
  obtain ⟨o2, u2⟩ := shl_or ⟨hr0, hr1⟩ b2 d2 g1 f1 t1
  have o1' : Hid (bits .or .u64 l1 h0 = l1 + h0) := o1
  have o2' : Hid (bits .or .u64 l2 h1 = l2 + h1) := o2
  go_enter Try.func120, Try.ntmps120
  go_wp2
  apply wp_loop_rounds 5
  simp only [Code.rounds]
  go_wp2
  go_region
  go_wp2
  go_region
  go_wp2
  refine bodyPost_ret (v := .agg #[.int .u64 0, .int .u64 l0, .int .u64 (l1 + h0), .int .u64 (l2 + h1)]) (by simp only [results, Try.results120]; go_simp) rfl ⟨0, l0, (l1 + h0), (l2 + h1), rfl, ⟨⟨by omega, by omega⟩, ⟨by omega, by omega⟩, ⟨by omega, by omega⟩, ⟨by omega, by omega⟩⟩, ?_, ?_⟩
  · have ek : (2 : Int) ^ k.toNat = 18446744073709551616 * 2 ^ r.toNat := by
      rw [kk.out, show ((64 : Int) + r).toNat = 64 + r.toNat by omega, Int.pow_add]; rfl
    have e : val x0 x1 x2 x3 * 2 ^ k.toNat = (x0 * 2 ^ r.toNat) * 18446744073709551616 + (x1 * 2 ^ r.toNat) * (18446744073709551616 * 18446744073709551616) + (x2 * 2 ^ r.toNat) * (18446744073709551616 * 340282366920938463463374607431768211456) + (x3 * 2 ^ r.toNat) * (18446744073709551616 * 6277101735386680763835789423207666416102355444464034512896) := by
      rw [ek]; unfold val
      generalize (2 : Int) ^ r.toNat = T
      grind
    have e0 := m0.out
    have e1 := m1.out
    have e2 := m2.out
    refine ⟨h2 + (x3 * 2 ^ r.toNat), ?_, ?_⟩
    · have : 0 ≤ x3 * 2 ^ r.toNat := Int.mul_nonneg hx3.1 (Int.pow_nonneg (by omega))
      omega
    · rw [e]; unfold val
      generalize x0 * 2 ^ r.toNat = p0 at *
      generalize x1 * 2 ^ r.toNat = p1 at *
      generalize x2 * 2 ^ r.toNat = p2 at *
      generalize x3 * 2 ^ r.toNat = p3 at *
      omega
  · (repeat (first | (with_reducible exact Below.refl _ _) | (with_reducible assumption) | (with_reducible apply bd) | (with_reducible apply ba) | (with_reducible refine bp ?_ (by first | omega | (simp [pad_size]; done) | (simp [pad_size]; omega)) _ _) | (with_reducible refine bs ?_ (by first | omega | (simp [pad_size]; done) | (simp [pad_size]; omega)) _) | (with_reducible refine bt ?_ (by assumption))))

set_option maxHeartbeats 2000000 in
theorem shl2 (x0 x1 x2 x3 k : Int) (hx : Lim x0 x1 x2 x3) (hk : k / 64 = 2) (w : World) :
    Calls Try.prog 120 #[.agg #[.int .u64 x0, .int .u64 x1, .int .u64 x2, .int .u64 x3], .int .i64 k] w fun e w' => ∃ z0 z1 z2 z3 : Int, e = .returned (.agg #[.int .u64 z0, .int .u64 z1, .int .u64 z2, .int .u64 z3]) ∧ Lim z0 z1 z2 z3 ∧ ShlS (val x0 x1 x2 x3) k (val z0 z1 z2 z3) ∧ Below w.heap.size w w' := by
  obtain ⟨hx0, hx1, hx2, hx3⟩ := hx
  obtain ⟨r, hr⟩ : ∃ r, k % 64 = r := ⟨_, rfl⟩
  have hr0 : 0 ≤ r := by omega
  have hr1 : r < 64 := by omega
  have hk0 : 0 ≤ k := by omega
  have hk1 : k < 256 := by omega
  have kk : Hid (k = 128 + r) := by unfold Hid; omega
  obtain ⟨h0, l0, s0, v0, m0, b0, d0, g0, f0, t0⟩ := shl_part x0 r hx0 ⟨hr0, hr1⟩
  obtain ⟨h1, l1, s1, v1, m1, b1, d1, g1, f1, t1⟩ := shl_part x1 r hx1 ⟨hr0, hr1⟩
  obtain ⟨o1, u1⟩ := shl_or ⟨hr0, hr1⟩ b1 d1 g0 f0 t0
  have o1' : Hid (bits .or .u64 l1 h0 = l1 + h0) := o1
  go_enter Try.func120, Try.ntmps120
  go_wp2
  apply wp_loop_rounds 5
  simp only [Code.rounds]
  go_wp2
  go_region
  go_wp2
  refine bodyPost_ret (v := .agg #[.int .u64 0, .int .u64 0, .int .u64 l0, .int .u64 (l1 + h0)]) (by simp only [results, Try.results120]; go_simp) rfl ⟨0, 0, l0, (l1 + h0), rfl, ⟨⟨by omega, by omega⟩, ⟨by omega, by omega⟩, ⟨by omega, by omega⟩, ⟨by omega, by omega⟩⟩, ?_, ?_⟩
  · have ek : (2 : Int) ^ k.toNat = 340282366920938463463374607431768211456 * 2 ^ r.toNat := by
      rw [kk.out, show ((128 : Int) + r).toNat = 128 + r.toNat by omega, Int.pow_add]; rfl
    have e : val x0 x1 x2 x3 * 2 ^ k.toNat = (x0 * 2 ^ r.toNat) * 340282366920938463463374607431768211456 + (x1 * 2 ^ r.toNat) * (340282366920938463463374607431768211456 * 18446744073709551616) + (x2 * 2 ^ r.toNat) * (340282366920938463463374607431768211456 * 340282366920938463463374607431768211456) + (x3 * 2 ^ r.toNat) * (340282366920938463463374607431768211456 * 6277101735386680763835789423207666416102355444464034512896) := by
      rw [ek]; unfold val
      generalize (2 : Int) ^ r.toNat = T
      grind
    have e0 := m0.out
    have e1 := m1.out
    refine ⟨h1 + (x2 * 2 ^ r.toNat) + (x3 * 2 ^ r.toNat) * 18446744073709551616, ?_, ?_⟩
    · have : 0 ≤ x2 * 2 ^ r.toNat := Int.mul_nonneg hx2.1 (Int.pow_nonneg (by omega))
      have : 0 ≤ x3 * 2 ^ r.toNat := Int.mul_nonneg hx3.1 (Int.pow_nonneg (by omega))
      omega
    · rw [e]; unfold val
      generalize x0 * 2 ^ r.toNat = p0 at *
      generalize x1 * 2 ^ r.toNat = p1 at *
      generalize x2 * 2 ^ r.toNat = p2 at *
      generalize x3 * 2 ^ r.toNat = p3 at *
      omega
  · (repeat (first | (with_reducible exact Below.refl _ _) | (with_reducible assumption) | (with_reducible apply bd) | (with_reducible apply ba) | (with_reducible refine bp ?_ (by first | omega | (simp [pad_size]; done) | (simp [pad_size]; omega)) _ _) | (with_reducible refine bs ?_ (by first | omega | (simp [pad_size]; done) | (simp [pad_size]; omega)) _) | (with_reducible refine bt ?_ (by assumption))))

set_option maxHeartbeats 2000000 in
theorem shl3 (x0 x1 x2 x3 k : Int) (hx : Lim x0 x1 x2 x3) (hk : k / 64 = 3) (w : World) :
    Calls Try.prog 120 #[.agg #[.int .u64 x0, .int .u64 x1, .int .u64 x2, .int .u64 x3], .int .i64 k] w fun e w' => ∃ z0 z1 z2 z3 : Int, e = .returned (.agg #[.int .u64 z0, .int .u64 z1, .int .u64 z2, .int .u64 z3]) ∧ Lim z0 z1 z2 z3 ∧ ShlS (val x0 x1 x2 x3) k (val z0 z1 z2 z3) ∧ Below w.heap.size w w' := by
  obtain ⟨hx0, hx1, hx2, hx3⟩ := hx
  obtain ⟨r, hr⟩ : ∃ r, k % 64 = r := ⟨_, rfl⟩
  have hr0 : 0 ≤ r := by omega
  have hr1 : r < 64 := by omega
  have hk0 : 0 ≤ k := by omega
  have hk1 : k < 256 := by omega
  have kk : Hid (k = 192 + r) := by unfold Hid; omega
  obtain ⟨h0, l0, s0, v0, m0, b0, d0, g0, f0, t0⟩ := shl_part x0 r hx0 ⟨hr0, hr1⟩
  go_enter Try.func120, Try.ntmps120
  go_wp2
  apply wp_loop_rounds 5
  simp only [Code.rounds]
  go_wp2
  refine bodyPost_ret (v := .agg #[.int .u64 0, .int .u64 0, .int .u64 0, .int .u64 l0]) (by simp only [results, Try.results120]; go_simp) rfl ⟨0, 0, 0, l0, rfl, ⟨⟨by omega, by omega⟩, ⟨by omega, by omega⟩, ⟨by omega, by omega⟩, ⟨by omega, by omega⟩⟩, ?_, ?_⟩
  · have ek : (2 : Int) ^ k.toNat = 6277101735386680763835789423207666416102355444464034512896 * 2 ^ r.toNat := by
      rw [kk.out, show ((192 : Int) + r).toNat = 192 + r.toNat by omega, Int.pow_add]; rfl
    have e : val x0 x1 x2 x3 * 2 ^ k.toNat = (x0 * 2 ^ r.toNat) * 6277101735386680763835789423207666416102355444464034512896 + (x1 * 2 ^ r.toNat) * (6277101735386680763835789423207666416102355444464034512896 * 18446744073709551616) + (x2 * 2 ^ r.toNat) * (6277101735386680763835789423207666416102355444464034512896 * 340282366920938463463374607431768211456) + (x3 * 2 ^ r.toNat) * (6277101735386680763835789423207666416102355444464034512896 * 6277101735386680763835789423207666416102355444464034512896) := by
      rw [ek]; unfold val
      generalize (2 : Int) ^ r.toNat = T
      grind
    have e0 := m0.out
    refine ⟨h0 + (x1 * 2 ^ r.toNat) + (x2 * 2 ^ r.toNat) * 18446744073709551616 + (x3 * 2 ^ r.toNat) * 340282366920938463463374607431768211456, ?_, ?_⟩
    · have : 0 ≤ x1 * 2 ^ r.toNat := Int.mul_nonneg hx1.1 (Int.pow_nonneg (by omega))
      have : 0 ≤ x2 * 2 ^ r.toNat := Int.mul_nonneg hx2.1 (Int.pow_nonneg (by omega))
      have : 0 ≤ x3 * 2 ^ r.toNat := Int.mul_nonneg hx3.1 (Int.pow_nonneg (by omega))
      omega
    · rw [e]; unfold val
      generalize x0 * 2 ^ r.toNat = p0 at *
      generalize x1 * 2 ^ r.toNat = p1 at *
      generalize x2 * 2 ^ r.toNat = p2 at *
      generalize x3 * 2 ^ r.toNat = p3 at *
      omega
  · (repeat (first | (with_reducible exact Below.refl _ _) | (with_reducible assumption) | (with_reducible apply bd) | (with_reducible apply ba) | (with_reducible refine bp ?_ (by first | omega | (simp [pad_size]; done) | (simp [pad_size]; omega)) _ _) | (with_reducible refine bs ?_ (by first | omega | (simp [pad_size]; done) | (simp [pad_size]; omega)) _) | (with_reducible refine bt ?_ (by assumption))))

theorem shl_any (x0 x1 x2 x3 k : Int) (hx : Lim x0 x1 x2 x3) (h0 : 0 ≤ k) (h1 : k < 256) (w : World) :
    Calls Try.prog 120 #[.agg #[.int .u64 x0, .int .u64 x1, .int .u64 x2, .int .u64 x3], .int .i64 k] w fun e w' => ∃ z0 z1 z2 z3 : Int, e = .returned (.agg #[.int .u64 z0, .int .u64 z1, .int .u64 z2, .int .u64 z3]) ∧ Lim z0 z1 z2 z3 ∧ ShlS (val x0 x1 x2 x3) k (val z0 z1 z2 z3) ∧ Below w.heap.size w w' := by
  rcases (show k / 64 = 0 ∨ k / 64 = 1 ∨ k / 64 = 2 ∨ k / 64 = 3 by omega) with h | h | h | h
  · exact shl0 x0 x1 x2 x3 k hx h w
  · exact shl1 x0 x1 x2 x3 k hx h w
  · exact shl2 x0 x1 x2 x3 k hx h w
  · exact shl3 x0 x1 x2 x3 k hx h w
end Go.Proofs.Ytmfnfnegnfpkiaa

/- num.shiftRight. -/
namespace Go.Proofs.Ytmfnfnegnfpkiaa
open Go.RowKit

/-- A part to the right: what stays, and what comes into the one below. -/
theorem shr_part (x r : Int) (hx : 0 ≤ x ∧ x < 18446744073709551616) (hr : 0 ≤ r ∧ r < 64) :
    ∃ h l g : Int, x / 2 ^ r.toNat = h ∧ IntKind.u64.wrap (x * 2 ^ (64 - r).toNat) = g ∧ Hid (x = h * 2 ^ r.toNat + l) ∧ 0 ≤ l ∧ Hid (l < 2 ^ r.toNat) ∧ Hid (g * 2 ^ r.toNat = l * 18446744073709551616) ∧ (0 ≤ g ∧ g < 18446744073709551616) ∧ (0 ≤ h ∧ h < 18446744073709551616) ∧ Hid (g % 2 ^ (64 - r).toNat = 0) ∧ Hid (h < 2 ^ (64 - r).toNat) := by
  obtain ⟨t, rfl⟩ := Int.eq_ofNat_of_zero_le hr.1
  have ht : t ≤ 63 := by omega
  have e64 : ((64 : Int) - (t : Int)).toNat = 64 - t := by omega
  obtain ⟨hTU, hT, hU, hT2⟩ := pow_split t ht
  rw [e64, Int.toNat_natCast, IntKind.wrap_u64]
  generalize hTe : (2 : Int) ^ t = T at *
  generalize hUe : (2 : Int) ^ (64 - t) = U at *
  have hd := Int.emod_add_mul_ediv x T
  have hm0 := Int.emod_nonneg x (show T ≠ 0 by omega)
  have hm1 := Int.emod_lt_of_pos x hT
  have hq0 : 0 ≤ x / T := Int.ediv_nonneg hx.1 (by omega)
  have hq1 : x / T < U := by
    apply Int.ediv_lt_of_lt_mul hT
    rw [Int.mul_comm, hTU]; exact hx.2
  have hq2 : x / T < 18446744073709551616 := by
    have : x / T ≤ x := Int.ediv_le_self _ hx.1
    omega
  generalize x / T = h at *
  generalize x % T = l at *
  have e1 : x * U = h * 18446744073709551616 + l * U := by
    rw [← hd, Int.add_mul, Int.mul_right_comm, hTU]
    rw [Int.mul_comm 18446744073709551616 h]; omega
  have e2 : 0 ≤ l * U := Int.mul_nonneg hm0 (by omega)
  have e3 : l * U < 18446744073709551616 := by
    rw [← hTU]
    exact Int.mul_lt_mul_of_pos_right hm1 hU
  have e4 : l * U * T = l * 18446744073709551616 := by rw [Int.mul_assoc, Int.mul_comm U T, hTU]
  refine ⟨h, l, l * U, rfl, ?_, ?_, hm0, hm1, e4, ⟨e2, e3⟩, ⟨hq0, hq2⟩, show _ = _ from Int.mul_emod_left l U, hq1⟩
  · rw [e1]; omega
  · show x = h * T + l
    rw [← hd, Int.mul_comm T h]; omega

theorem shr_or {a b r : Int} (hr : 0 ≤ r ∧ r < 64) (ha : 0 ≤ a ∧ a < 18446744073709551616) (hm : Hid (a % 2 ^ (64 - r).toNat = 0)) (hb : 0 ≤ b ∧ b < 18446744073709551616) (hb1 : Hid (b < 2 ^ (64 - r).toNat)) : bits .or .u64 b a = b + a ∧ b + a < 18446744073709551616 := by
  have hc : bits .or .u64 b a = bits .or .u64 a b := by simp only [bits, BitVec.or_comm]
  have h1 : bits .or .u64 a b = a + b := bits_join .u64 64 (by decide) (fun n h0 h1 => by rw [IntKind.wrap_u64]; omega) (64 - r).toNat a b ha.1 hm.out (by simpa using ha.2) hb.1 hb1.out (by simp; omega)
  refine ⟨by rw [hc, h1]; omega, ?_⟩
  obtain ⟨t, rfl⟩ := Int.eq_ofNat_of_zero_le hr.1
  have ht : t ≤ 63 := by omega
  have e64 : ((64 : Int) - (t : Int)).toNat = 64 - t := by omega
  obtain ⟨hTU, hT, hU, hT2⟩ := pow_split t ht
  have hm := hm.out; have hb1 := hb1.out
  rw [e64] at hm hb1
  generalize hTe : (2 : Int) ^ t = T at *
  generalize hUe : (2 : Int) ^ (64 - t) = U at *
  obtain ⟨q, rfl⟩ := Int.dvd_of_emod_eq_zero hm
  have hq : q < T := by
    apply Int.lt_of_mul_lt_mul_left (a := U) _ (by omega)
    rw [Int.mul_comm U T, hTU]; exact ha.2
  have : U * (q + 1) ≤ U * T := Int.mul_le_mul_of_nonneg_left (by omega) (by omega)
  rw [Int.mul_comm U T, hTU, Int.mul_add] at this
  omega

/-- What a shift to the right leaves, as a whole number. -/
def ShrS (x k z : Int) : Prop := ∃ m : Int, 0 ≤ m ∧ m < 2 ^ k.toNat ∧ x = z * 2 ^ k.toNat + m

set_option maxHeartbeats 2000000 in
theorem shr0 (x0 x1 x2 x3 k : Int) (hx : Lim x0 x1 x2 x3) (hk : k / 64 = 0) (w : World) :
    Calls Try.prog 121 #[.agg #[.int .u64 x0, .int .u64 x1, .int .u64 x2, .int .u64 x3], .int .i64 k] w fun e w' => ∃ z0 z1 z2 z3 : Int, e = .returned (.agg #[.int .u64 z0, .int .u64 z1, .int .u64 z2, .int .u64 z3]) ∧ Lim z0 z1 z2 z3 ∧ ShrS (val x0 x1 x2 x3) k (val z0 z1 z2 z3) ∧ Below w.heap.size w w' := by
  obtain ⟨hx0, hx1, hx2, hx3⟩ := hx
  obtain ⟨r, hr⟩ : ∃ r, k % 64 = r := ⟨_, rfl⟩
  have hr0 : 0 ≤ r := by omega
  have hr1 : r < 64 := by omega
  have hk0 : 0 ≤ k := by omega
  have hk1 : k < 256 := by omega
  have kk : Hid (k = 0 + r) := by unfold Hid; omega
  obtain ⟨h0, l0, g0, v0, s0, m0, n0, f0, t0, b0, c0, d0, y0⟩ := shr_part x0 r hx0 ⟨hr0, hr1⟩
  obtain ⟨h1, l1, g1, v1, s1, m1, n1, f1, t1, b1, c1, d1, y1⟩ := shr_part x1 r hx1 ⟨hr0, hr1⟩
  obtain ⟨h2, l2, g2, v2, s2, m2, n2, f2, t2, b2, c2, d2, y2⟩ := shr_part x2 r hx2 ⟨hr0, hr1⟩
  obtain ⟨h3, l3, g3, v3, s3, m3, n3, f3, t3, b3, c3, d3, y3⟩ := shr_part x3 r hx3 ⟨hr0, hr1⟩
  obtain ⟨o0, u0⟩ := shr_or ⟨hr0, hr1⟩ b1 d1 c0 y0
  obtain ⟨o1, u1⟩ := shr_or ⟨hr0, hr1⟩ b2 d2 c1 y1
  obtain ⟨o2, u2⟩ := shr_or ⟨hr0, hr1⟩ b3 d3 c2 y2
  go_enter Try.func121, Try.ntmps121
  go_wp2
  apply wp_loop_rounds 5
  simp only [Code.rounds]
  go_wp2
  go_region
  go_wp2
  go_region
  go_wp2
  go_region
  go_wp2
  refine bodyPost_ret (v := .agg #[.int .u64 (h0 + g1), .int .u64 (h1 + g2), .int .u64 (h2 + g3), .int .u64 h3]) (by simp only [results, Try.results121]; go_simp) rfl ⟨(h0 + g1), (h1 + g2), (h2 + g3), h3, rfl, ⟨⟨by omega, by omega⟩, ⟨by omega, by omega⟩, ⟨by omega, by omega⟩, ⟨by omega, by omega⟩⟩, ?_, ?_⟩
  · have ek : (2 : Int) ^ k.toNat = 1 * 2 ^ r.toNat := by
      rw [kk.out, show ((0 : Int) + r).toNat = 0 + r.toNat by omega, Int.pow_add]; rfl
    have hT : (0 : Int) < 2 ^ r.toNat := Int.pow_pos (by omega)
    have e0 := m0.out; have q0 := t0.out; have w0 := f0.out
    have e1 := m1.out; have q1 := t1.out; have w1 := f1.out
    have e2 := m2.out; have q2 := t2.out; have w2 := f2.out
    have e3 := m3.out; have q3 := t3.out; have w3 := f3.out
    have e : val (h0 + g1) (h1 + g2) (h2 + g3) h3 * 2 ^ k.toNat = (h0 * 2 ^ r.toNat + g1 * 2 ^ r.toNat) * (1 * 1) + (h1 * 2 ^ r.toNat + g2 * 2 ^ r.toNat) * (1 * 18446744073709551616) + (h2 * 2 ^ r.toNat + g3 * 2 ^ r.toNat) * (1 * 340282366920938463463374607431768211456) + (h3 * 2 ^ r.toNat) * (1 * 6277101735386680763835789423207666416102355444464034512896) := by
      rw [ek]; unfold val
      generalize (2 : Int) ^ r.toNat = T
      grind
    refine ⟨l0 * 1, by omega, ?_, ?_⟩
    · rw [ek]
      generalize (2 : Int) ^ r.toNat = T at *
      omega
    · rw [e]; unfold val
      generalize h0 * 2 ^ r.toNat = p0 at *
      generalize h1 * 2 ^ r.toNat = p1 at *
      generalize h2 * 2 ^ r.toNat = p2 at *
      generalize h3 * 2 ^ r.toNat = p3 at *
      generalize g0 * 2 ^ r.toNat = a0 at *
      generalize g1 * 2 ^ r.toNat = a1 at *
      generalize g2 * 2 ^ r.toNat = a2 at *
      generalize g3 * 2 ^ r.toNat = a3 at *
      omega
  · (repeat (first | (with_reducible exact Below.refl _ _) | (with_reducible assumption) | (with_reducible apply bd) | (with_reducible apply ba) | (with_reducible refine bp ?_ (by first | omega | (simp [pad_size]; done) | (simp [pad_size]; omega)) _ _) | (with_reducible refine bs ?_ (by first | omega | (simp [pad_size]; done) | (simp [pad_size]; omega)) _) | (with_reducible refine bt ?_ (by assumption))))

set_option maxHeartbeats 2000000 in
theorem shr1 (x0 x1 x2 x3 k : Int) (hx : Lim x0 x1 x2 x3) (hk : k / 64 = 1) (w : World) :
    Calls Try.prog 121 #[.agg #[.int .u64 x0, .int .u64 x1, .int .u64 x2, .int .u64 x3], .int .i64 k] w fun e w' => ∃ z0 z1 z2 z3 : Int, e = .returned (.agg #[.int .u64 z0, .int .u64 z1, .int .u64 z2, .int .u64 z3]) ∧ Lim z0 z1 z2 z3 ∧ ShrS (val x0 x1 x2 x3) k (val z0 z1 z2 z3) ∧ Below w.heap.size w w' := by
  obtain ⟨hx0, hx1, hx2, hx3⟩ := hx
  obtain ⟨r, hr⟩ : ∃ r, k % 64 = r := ⟨_, rfl⟩
  have hr0 : 0 ≤ r := by omega
  have hr1 : r < 64 := by omega
  have hk0 : 0 ≤ k := by omega
  have hk1 : k < 256 := by omega
  have kk : Hid (k = 64 + r) := by unfold Hid; omega
  obtain ⟨h1, l1, g1, v1, s1, m1, n1, f1, t1, b1, c1, d1, y1⟩ := shr_part x1 r hx1 ⟨hr0, hr1⟩
  obtain ⟨h2, l2, g2, v2, s2, m2, n2, f2, t2, b2, c2, d2, y2⟩ := shr_part x2 r hx2 ⟨hr0, hr1⟩
  obtain ⟨h3, l3, g3, v3, s3, m3, n3, f3, t3, b3, c3, d3, y3⟩ := shr_part x3 r hx3 ⟨hr0, hr1⟩
  obtain ⟨o1, u1⟩ := shr_or ⟨hr0, hr1⟩ b2 d2 c1 y1
  obtain ⟨o2, u2⟩ := shr_or ⟨hr0, hr1⟩ b3 d3 c2 y2
  go_enter Try.func121, Try.ntmps121
  go_wp2
  apply wp_loop_rounds 5
  simp only [Code.rounds]
  go_wp2
  go_region
  go_wp2
  go_region
  go_wp2
  refine bodyPost_ret (v := .agg #[.int .u64 (h1 + g2), .int .u64 (h2 + g3), .int .u64 h3, .int .u64 0]) (by simp only [results, Try.results121]; go_simp) rfl ⟨(h1 + g2), (h2 + g3), h3, 0, rfl, ⟨⟨by omega, by omega⟩, ⟨by omega, by omega⟩, ⟨by omega, by omega⟩, ⟨by omega, by omega⟩⟩, ?_, ?_⟩
  · have ek : (2 : Int) ^ k.toNat = 18446744073709551616 * 2 ^ r.toNat := by
      rw [kk.out, show ((64 : Int) + r).toNat = 64 + r.toNat by omega, Int.pow_add]; rfl
    have hT : (0 : Int) < 2 ^ r.toNat := Int.pow_pos (by omega)
    have e1 := m1.out; have q1 := t1.out; have w1 := f1.out
    have e2 := m2.out; have q2 := t2.out; have w2 := f2.out
    have e3 := m3.out; have q3 := t3.out; have w3 := f3.out
    have e : val (h1 + g2) (h2 + g3) h3 0 * 2 ^ k.toNat = (h1 * 2 ^ r.toNat + g2 * 2 ^ r.toNat) * (18446744073709551616 * 1) + (h2 * 2 ^ r.toNat + g3 * 2 ^ r.toNat) * (18446744073709551616 * 18446744073709551616) + (h3 * 2 ^ r.toNat) * (18446744073709551616 * 340282366920938463463374607431768211456) := by
      rw [ek]; unfold val
      generalize (2 : Int) ^ r.toNat = T
      grind
    refine ⟨l1 * 18446744073709551616 + x0 * 1, by omega, ?_, ?_⟩
    · rw [ek]
      generalize (2 : Int) ^ r.toNat = T at *
      omega
    · rw [e]; unfold val
      generalize h1 * 2 ^ r.toNat = p1 at *
      generalize h2 * 2 ^ r.toNat = p2 at *
      generalize h3 * 2 ^ r.toNat = p3 at *
      generalize g1 * 2 ^ r.toNat = a1 at *
      generalize g2 * 2 ^ r.toNat = a2 at *
      generalize g3 * 2 ^ r.toNat = a3 at *
      omega
  · (repeat (first | (with_reducible exact Below.refl _ _) | (with_reducible assumption) | (with_reducible apply bd) | (with_reducible apply ba) | (with_reducible refine bp ?_ (by first | omega | (simp [pad_size]; done) | (simp [pad_size]; omega)) _ _) | (with_reducible refine bs ?_ (by first | omega | (simp [pad_size]; done) | (simp [pad_size]; omega)) _) | (with_reducible refine bt ?_ (by assumption))))

set_option maxHeartbeats 2000000 in
theorem shr2 (x0 x1 x2 x3 k : Int) (hx : Lim x0 x1 x2 x3) (hk : k / 64 = 2) (w : World) :
    Calls Try.prog 121 #[.agg #[.int .u64 x0, .int .u64 x1, .int .u64 x2, .int .u64 x3], .int .i64 k] w fun e w' => ∃ z0 z1 z2 z3 : Int, e = .returned (.agg #[.int .u64 z0, .int .u64 z1, .int .u64 z2, .int .u64 z3]) ∧ Lim z0 z1 z2 z3 ∧ ShrS (val x0 x1 x2 x3) k (val z0 z1 z2 z3) ∧ Below w.heap.size w w' := by
  obtain ⟨hx0, hx1, hx2, hx3⟩ := hx
  obtain ⟨r, hr⟩ : ∃ r, k % 64 = r := ⟨_, rfl⟩
  have hr0 : 0 ≤ r := by omega
  have hr1 : r < 64 := by omega
  have hk0 : 0 ≤ k := by omega
  have hk1 : k < 256 := by omega
  have kk : Hid (k = 128 + r) := by unfold Hid; omega
  obtain ⟨h2, l2, g2, v2, s2, m2, n2, f2, t2, b2, c2, d2, y2⟩ := shr_part x2 r hx2 ⟨hr0, hr1⟩
  obtain ⟨h3, l3, g3, v3, s3, m3, n3, f3, t3, b3, c3, d3, y3⟩ := shr_part x3 r hx3 ⟨hr0, hr1⟩
  obtain ⟨o2, u2⟩ := shr_or ⟨hr0, hr1⟩ b3 d3 c2 y2
  go_enter Try.func121, Try.ntmps121
  go_wp2
  apply wp_loop_rounds 5
  simp only [Code.rounds]
  go_wp2
  go_region
  go_wp2
  refine bodyPost_ret (v := .agg #[.int .u64 (h2 + g3), .int .u64 h3, .int .u64 0, .int .u64 0]) (by simp only [results, Try.results121]; go_simp) rfl ⟨(h2 + g3), h3, 0, 0, rfl, ⟨⟨by omega, by omega⟩, ⟨by omega, by omega⟩, ⟨by omega, by omega⟩, ⟨by omega, by omega⟩⟩, ?_, ?_⟩
  · have ek : (2 : Int) ^ k.toNat = 340282366920938463463374607431768211456 * 2 ^ r.toNat := by
      rw [kk.out, show ((128 : Int) + r).toNat = 128 + r.toNat by omega, Int.pow_add]; rfl
    have hT : (0 : Int) < 2 ^ r.toNat := Int.pow_pos (by omega)
    have e2 := m2.out; have q2 := t2.out; have w2 := f2.out
    have e3 := m3.out; have q3 := t3.out; have w3 := f3.out
    have e : val (h2 + g3) h3 0 0 * 2 ^ k.toNat = (h2 * 2 ^ r.toNat + g3 * 2 ^ r.toNat) * (340282366920938463463374607431768211456 * 1) + (h3 * 2 ^ r.toNat) * (340282366920938463463374607431768211456 * 18446744073709551616) := by
      rw [ek]; unfold val
      generalize (2 : Int) ^ r.toNat = T
      grind
    refine ⟨l2 * 340282366920938463463374607431768211456 + x0 * 1 + x1 * 18446744073709551616, by omega, ?_, ?_⟩
    · rw [ek]
      generalize (2 : Int) ^ r.toNat = T at *
      omega
    · rw [e]; unfold val
      generalize h2 * 2 ^ r.toNat = p2 at *
      generalize h3 * 2 ^ r.toNat = p3 at *
      generalize g2 * 2 ^ r.toNat = a2 at *
      generalize g3 * 2 ^ r.toNat = a3 at *
      omega
  · (repeat (first | (with_reducible exact Below.refl _ _) | (with_reducible assumption) | (with_reducible apply bd) | (with_reducible apply ba) | (with_reducible refine bp ?_ (by first | omega | (simp [pad_size]; done) | (simp [pad_size]; omega)) _ _) | (with_reducible refine bs ?_ (by first | omega | (simp [pad_size]; done) | (simp [pad_size]; omega)) _) | (with_reducible refine bt ?_ (by assumption))))

set_option maxHeartbeats 2000000 in
theorem shr3 (x0 x1 x2 x3 k : Int) (hx : Lim x0 x1 x2 x3) (hk : k / 64 = 3) (w : World) :
    Calls Try.prog 121 #[.agg #[.int .u64 x0, .int .u64 x1, .int .u64 x2, .int .u64 x3], .int .i64 k] w fun e w' => ∃ z0 z1 z2 z3 : Int, e = .returned (.agg #[.int .u64 z0, .int .u64 z1, .int .u64 z2, .int .u64 z3]) ∧ Lim z0 z1 z2 z3 ∧ ShrS (val x0 x1 x2 x3) k (val z0 z1 z2 z3) ∧ Below w.heap.size w w' := by
  obtain ⟨hx0, hx1, hx2, hx3⟩ := hx
  obtain ⟨r, hr⟩ : ∃ r, k % 64 = r := ⟨_, rfl⟩
  have hr0 : 0 ≤ r := by omega
  have hr1 : r < 64 := by omega
  have hk0 : 0 ≤ k := by omega
  have hk1 : k < 256 := by omega
  have kk : Hid (k = 192 + r) := by unfold Hid; omega
  obtain ⟨h3, l3, g3, v3, s3, m3, n3, f3, t3, b3, c3, d3, y3⟩ := shr_part x3 r hx3 ⟨hr0, hr1⟩
  go_enter Try.func121, Try.ntmps121
  go_wp2
  apply wp_loop_rounds 5
  simp only [Code.rounds]
  go_wp2
  refine bodyPost_ret (v := .agg #[.int .u64 h3, .int .u64 0, .int .u64 0, .int .u64 0]) (by simp only [results, Try.results121]; go_simp) rfl ⟨h3, 0, 0, 0, rfl, ⟨⟨by omega, by omega⟩, ⟨by omega, by omega⟩, ⟨by omega, by omega⟩, ⟨by omega, by omega⟩⟩, ?_, ?_⟩
  · have ek : (2 : Int) ^ k.toNat = 6277101735386680763835789423207666416102355444464034512896 * 2 ^ r.toNat := by
      rw [kk.out, show ((192 : Int) + r).toNat = 192 + r.toNat by omega, Int.pow_add]; rfl
    have hT : (0 : Int) < 2 ^ r.toNat := Int.pow_pos (by omega)
    have e3 := m3.out; have q3 := t3.out; have w3 := f3.out
    have e : val h3 0 0 0 * 2 ^ k.toNat = (h3 * 2 ^ r.toNat) * (6277101735386680763835789423207666416102355444464034512896 * 1) := by
      rw [ek]; unfold val
      generalize (2 : Int) ^ r.toNat = T
      grind
    refine ⟨l3 * 6277101735386680763835789423207666416102355444464034512896 + x0 * 1 + x1 * 18446744073709551616 + x2 * 340282366920938463463374607431768211456, by omega, ?_, ?_⟩
    · rw [ek]
      generalize (2 : Int) ^ r.toNat = T at *
      omega
    · rw [e]; unfold val
      generalize h3 * 2 ^ r.toNat = p3 at *
      generalize g3 * 2 ^ r.toNat = a3 at *
      omega
  · (repeat (first | (with_reducible exact Below.refl _ _) | (with_reducible assumption) | (with_reducible apply bd) | (with_reducible apply ba) | (with_reducible refine bp ?_ (by first | omega | (simp [pad_size]; done) | (simp [pad_size]; omega)) _ _) | (with_reducible refine bs ?_ (by first | omega | (simp [pad_size]; done) | (simp [pad_size]; omega)) _) | (with_reducible refine bt ?_ (by assumption))))

set_option maxHeartbeats 2000000 in
theorem shr4 (x0 x1 x2 x3 : Int) (hx : Lim x0 x1 x2 x3) (w : World) :
    Calls Try.prog 121 #[.agg #[.int .u64 x0, .int .u64 x1, .int .u64 x2, .int .u64 x3], .int .i64 256] w fun e w' => ∃ z0 z1 z2 z3 : Int, e = .returned (.agg #[.int .u64 z0, .int .u64 z1, .int .u64 z2, .int .u64 z3]) ∧ Lim z0 z1 z2 z3 ∧ ShrS (val x0 x1 x2 x3) 256 (val z0 z1 z2 z3) ∧ Below w.heap.size w w' := by
  go_enter Try.func121, Try.ntmps121
  go_wp2
  apply wp_loop_rounds 1
  simp only [Code.rounds]
  go_wp2
  refine bodyPost_ret (v := .agg #[.int .u64 0, .int .u64 0, .int .u64 0, .int .u64 0]) (by simp only [results, Try.results121]; go_simp) rfl ⟨0, 0, 0, 0, rfl, lim_zero, ⟨val x0 x1 x2 x3, val_lo hx, ?_, ?_⟩, ?_⟩
  · have := val_hi hx
    rw [show ((256 : Int).toNat) = 256 from rfl, show (2 : Int) ^ 256 = 115792089237316195423570985008687907853269984665640564039457584007913129639936 from rfl]; exact this
  · rw [val0]; omega
  · (repeat (first | (with_reducible exact Below.refl _ _) | (with_reducible assumption) | (with_reducible apply bd) | (with_reducible apply ba) | (with_reducible refine bp ?_ (by first | omega | (simp [pad_size]; done) | (simp [pad_size]; omega)) _ _) | (with_reducible refine bs ?_ (by first | omega | (simp [pad_size]; done) | (simp [pad_size]; omega)) _) | (with_reducible refine bt ?_ (by assumption))))

theorem shr_any (x0 x1 x2 x3 k : Int) (hx : Lim x0 x1 x2 x3) (h0 : 0 ≤ k) (h1 : k ≤ 256) (w : World) :
    Calls Try.prog 121 #[.agg #[.int .u64 x0, .int .u64 x1, .int .u64 x2, .int .u64 x3], .int .i64 k] w fun e w' => ∃ z0 z1 z2 z3 : Int, e = .returned (.agg #[.int .u64 z0, .int .u64 z1, .int .u64 z2, .int .u64 z3]) ∧ Lim z0 z1 z2 z3 ∧ ShrS (val x0 x1 x2 x3) k (val z0 z1 z2 z3) ∧ Below w.heap.size w w' := by
  by_cases h4 : k = 256
  · subst h4; exact shr4 x0 x1 x2 x3 hx w
  rcases (show k / 64 = 0 ∨ k / 64 = 1 ∨ k / 64 = 2 ∨ k / 64 = 3 by omega) with h | h | h | h
  · exact shr0 x0 x1 x2 x3 k hx h w
  · exact shr1 x0 x1 x2 x3 k hx h w
  · exact shr2 x0 x1 x2 x3 k hx h w
  · exact shr3 x0 x1 x2 x3 k hx h w
end Go.Proofs.Ytmfnfnegnfpkiaa

/- Two lists of coins held against each other, coin by coin: the document's Same, and slices.Equal. -/
namespace Go.Proofs.Ytmfnfnegnfpkiaa
open Go.RowKit

def cnB (x y : Cn) : Bool := x.d == y.d && eq4 x.a x.b x.c x.e y.a y.b y.c y.e
def clB : List Cn → List Cn → Bool
  | [], [] => true
  | x :: p, y :: q => cnB x y && clB p q
  | _, _ => false
theorem cnB_true {x y : Cn} : cnB x y = true ↔ x = y := by
  obtain ⟨d, a, b, c, e⟩ := x
  obtain ⟨d', a', b', c', e'⟩ := y
  simp only [cnB, Bool.and_eq_true, beq_iff_eq, eq4_true, Cn.mk.injEq]
theorem clB_true : ∀ {p q : List Cn}, clB p q = true ↔ p = q
  | [], [] => by simp [clB]
  | [], _ :: _ => by simp [clB]
  | _ :: _, [] => by simp [clB]
  | x :: p, y :: q => by simp [clB, cnB_true, clB_true (p := p) (q := q)]
theorem clB_self (p : List Cn) : clB p p = true := clB_true.2 rfl
theorem clB_len {p q : List Cn} (h : p.length ≠ q.length) : clB p q = false := by
  rcases Bool.eq_false_or_eq_true (clB p q) with e | e
  · exact absurd (congrArg List.length (clB_true.1 e)) h
  · exact e
theorem clB_cons {p q : List Cn} {k : Nat} (hp : k < p.length) (hq : k < q.length) : clB (p.drop k) (q.drop k) = (cnB p[k] q[k] && clB (p.drop (k + 1)) (q.drop (k + 1))) := by
  rw [List.drop_eq_getElem_cons hp, List.drop_eq_getElem_cons hq]; rfl
set_option maxHeartbeats 4000000 in
theorem sameCL_some (g h o u c d : Nat) (p q : List Cn) (hlen : p.length ≤ 9223372036854775807) (hpq : p.length = q.length) (w : World) (hg : g < w.heap.size) (hh : h < w.heap.size)
    (hp : ∀ i x, p[i]? = some x → CnAt w g (o + i * 5) x) (hq : ∀ i x, q[i]? = some x → CnAt w h (u + i * 5) x) :
    Calls Try.prog 17 #[.slice (some ⟨g, o, none⟩) p.length c, .slice (some ⟨h, u, none⟩) p.length d] w fun e w' => e = .returned (.bool (clB p q)) ∧ Below w.heap.size w w' := by
  have hpad := pads
  have heq := eq_coin
  have hpq' : Hid _ := hpq
  clear hpq
  go_enter Try.func17, Try.ntmps17
  go_wp2
  go_loopw [5] (fun i wr => ∃ (k m : Nat) (f : Nat → Obj) (dr : Nat), k ≤ p.length ∧ i = .int .i64 k ∧ w.heap.size ≤ m ∧ wr = pad w m f dr ∧ Hid (clB p q = clB (p.drop k) (q.drop k))) (fun i _ => p.length - (intOf i).toNat)
  case atStart =>
    obtain ⟨m, f, dr, hm, e⟩ := pad_of (Below.refl w.heap.size w)
    exact ⟨0, m, f, dr, Nat.zero_le _, rfl, hm, e, by unfold Hid; simp⟩
  case round =>
    obtain ⟨k, m, f, dr, hk, rfl, hm, rfl, hc⟩ := hrel
    by_cases hkl : k < p.length
    · have hkq : k < q.length := by have := hpq'.out; omega
      obtain ⟨a0, a1, a2, a3, a4⟩ := hp k p[k] (by simp [hkl])
      obtain ⟨b0, b1, b2, b3, b4⟩ := hq k q[k] (by simp [hkq])
      have hgm : g < m := by omega
      have hhm : h < m := by omega
      have hkl' : (k : Int) < (p.length : Int) := by omega
      have hc2 : Hid (clB p q = (cnB p[k] q[k] && clB (p.drop (k + 1)) (q.drop (k + 1)))) := by unfold Hid; rw [hc.out, clB_cons hkl hkq]
      generalize p[k] = x at *
      generalize q[k] = y at *
      clear hp hq hc
      cases hb : cnB x y
      · have hb1 : (x.d == y.d && eq4 x.a x.b x.c x.e y.a y.b y.c y.e) = false := hb
        rw [hb] at hc2
        have hc3 : Hid (clB p q = false) := by unfold Hid; rw [hc2.out]; rfl
        clear hb hc2
        go_wp2
        go_region
        all_goals go_wp2
        all_goals go_ret
        all_goals exact ⟨congrArg (fun b => Ending.returned (.bool b)) hc3.out.symm, by (repeat (first | (with_reducible exact Below.refl _ _) | (with_reducible assumption) | (with_reducible apply bd) | (with_reducible apply ba) | (with_reducible refine bp ?_ (by first | omega | (simp [pad_size]; done) | (simp [pad_size]; omega)) _ _) | (with_reducible refine bs ?_ (by first | omega | (simp [pad_size]; done) | (simp [pad_size]; omega)) _) | (with_reducible refine bt ?_ (by assumption))))⟩
      · have hb1 : (x.d == y.d && eq4 x.a x.b x.c x.e y.a y.b y.c y.e) = true := hb
        rw [hb] at hc2
        have hc3 : Hid (clB p q = clB (p.drop (k + 1)) (q.drop (k + 1))) := by unfold Hid; rw [hc2.out]; rfl
        clear hb hc2
        go_wp2
        go_region
        all_goals go_wp2
        all_goals go_roundw
        case rel => exact ⟨k + 1, m, f, dr + 1, by omega, by go_num, hm, by first | rfl | (simp [hpad]; done), hc3⟩
        case measure => (simp [intOf] <;> omega)
    · have hk' : k = p.length := by omega
      subst hk'
      have hc3 : Hid (clB p q = true) := by unfold Hid; rw [hc.out, List.drop_length, List.drop_of_length_le (by have := hpq'.out; omega)]; rfl
      clear hc
      go_wp2
      go_ret
      exact ⟨congrArg (fun b => Ending.returned (.bool b)) hc3.out.symm, by (repeat (first | (with_reducible exact Below.refl _ _) | (with_reducible assumption) | (with_reducible apply bd) | (with_reducible apply ba) | (with_reducible refine bp ?_ (by first | omega | (simp [pad_size]; done) | (simp [pad_size]; omega)) _ _) | (with_reducible refine bs ?_ (by first | omega | (simp [pad_size]; done) | (simp [pad_size]; omega)) _) | (with_reducible refine bt ?_ (by assumption))))⟩
set_option maxHeartbeats 1000000 in
theorem sameCL_nil (a b : Option Addr) (c d : Nat) (w : World) :
    Calls Try.prog 17 #[.slice a 0 c, .slice b 0 d] w fun e w' => e = .returned (.bool true) ∧ Below w.heap.size w w' := by
  go_enter Try.func17, Try.ntmps17
  go_wp2
  apply wp_loop_rounds 1
  simp only [Code.rounds]
  go_wp2
  go_ret
  exact ⟨rfl, by (repeat (first | (with_reducible exact Below.refl _ _) | (with_reducible assumption) | (with_reducible apply bd) | (with_reducible apply ba) | (with_reducible refine bp ?_ (by first | omega | (simp [pad_size]; done) | (simp [pad_size]; omega)) _ _) | (with_reducible refine bs ?_ (by first | omega | (simp [pad_size]; done) | (simp [pad_size]; omega)) _) | (with_reducible refine bt ?_ (by assumption))))⟩
set_option maxHeartbeats 1000000 in
theorem sameCL_len (a b : Option Addr) (m n c d : Nat) (h : m ≠ n) (w : World) :
    Calls Try.prog 17 #[.slice a m c, .slice b n d] w fun e w' => e = .returned (.bool false) ∧ Below w.heap.size w w' := by
  have h' : ¬ (m : Int) = (n : Int) := by omega
  go_enter Try.func17, Try.ntmps17
  go_wp2
  go_ret
  exact ⟨rfl, by (repeat (first | (with_reducible exact Below.refl _ _) | (with_reducible assumption) | (with_reducible apply bd) | (with_reducible apply ba) | (with_reducible refine bp ?_ (by first | omega | (simp [pad_size]; done) | (simp [pad_size]; omega)) _ _) | (with_reducible refine bs ?_ (by first | omega | (simp [pad_size]; done) | (simp [pad_size]; omega)) _) | (with_reducible refine bt ?_ (by assumption))))⟩
/-- A slice's value that is a list of coins in a world, however long. -/
def IsCL (W : World) (v : Value) (l : List Cn) : Prop :=
  (l = [] ∧ ∃ a cap, v = .slice a 0 cap) ∨ ∃ blk off cap, v = .slice (some ⟨blk, off, none⟩) l.length cap ∧ l ≠ [] ∧ l.length ≤ 9223372036854775807 ∧ blk < W.heap.size ∧ ∀ i x, l[i]? = some x → CnAt W blk (off + i * 5) x
theorem IsCL.below {W W' : World} {v : Value} {l : List Cn} (h : IsCL W v l) (hb : Below W.heap.size W W') : IsCL W' v l := by
  rcases h with h | ⟨blk, off, cap, hv, hne, hlen, hlt, hall⟩
  · exact .inl h
  · refine .inr ⟨blk, off, cap, hv, hne, hlen, Nat.lt_of_lt_of_le hlt hb.size, fun i x hi => ?_⟩
    obtain ⟨h0, h1, h2, h3, h4⟩ := hall i x hi
    exact ⟨(hb.cell (p := ⟨blk, _, none⟩) hlt).trans h0, (hb.cell (p := ⟨blk, _, none⟩) hlt).trans h1, (hb.cell (p := ⟨blk, _, none⟩) hlt).trans h2, (hb.cell (p := ⟨blk, _, none⟩) hlt).trans h3, (hb.cell (p := ⟨blk, _, none⟩) hlt).trans h4⟩
theorem IsCoins.cl {W : World} {v : Value} {l : List Cn} (h : IsCoins W v l) : IsCL W v l := by
  rcases h with h | ⟨blk, off, cap, hv, hne, hlen, r⟩
  · exact .inl h
  · exact .inr ⟨blk, off, cap, hv, hne, by omega, r⟩
theorem IsCL.slice {W : World} {v : Value} {l : List Cn} (h : IsCL W v l) : ∃ a cap, v = .slice a l.length cap := by
  rcases h with ⟨rfl, a, cap, rfl⟩ | ⟨blk, off, cap, hv, _⟩
  · exact ⟨a, cap, rfl⟩
  · exact ⟨_, _, hv⟩
theorem sameCL_any {va vb : Value} {p q : List Cn} (w : World) (hA : IsCL w va p) (hB : IsCL w vb q) :
    Calls Try.prog 17 #[va, vb] w fun e w' => e = .returned (.bool (clB p q)) ∧ Below w.heap.size w w' := by
  by_cases hl : p.length = q.length
  · rcases hA with ⟨rfl, a, c, rfl⟩ | ⟨g, o, c, rfl, h0, h1, h2, h3⟩
    · obtain ⟨b, d, rfl⟩ := hB.slice
      obtain rfl : q = [] := List.eq_nil_of_length_eq_zero hl.symm
      exact sameCL_nil a b c d w
    · rcases hB with ⟨rfl, b, d, rfl⟩ | ⟨h, u, d, rfl, k0, k1, k2, k3⟩
      · exact absurd (List.eq_nil_of_length_eq_zero hl) h0
      · rw [← hl]
        exact sameCL_some g h o u c d p q h1 hl w h2 k2 h3 k3
  · obtain ⟨a, c, rfl⟩ := hA.slice
    obtain ⟨b, d, rfl⟩ := hB.slice
    rw [clB_len hl]
    exact sameCL_len a b _ _ c d hl w
set_option maxHeartbeats 4000000 in
theorem equalCL_some (g h o u c d : Nat) (p q : List Cn) (hlen : p.length ≤ 9223372036854775807) (hpq : p.length = q.length) (w : World) (hg : g < w.heap.size) (hh : h < w.heap.size)
    (hp : ∀ i x, p[i]? = some x → CnAt w g (o + i * 5) x) (hq : ∀ i x, q[i]? = some x → CnAt w h (u + i * 5) x) :
    Calls Try.prog 71 #[.slice (some ⟨g, o, none⟩) p.length c, .slice (some ⟨h, u, none⟩) p.length d] w fun e w' => e = .returned (.bool (clB p q)) ∧ Below w.heap.size w w' := by
  have hpad := pads
  have heq := eq_coin
  have hpq' : Hid _ := hpq
  clear hpq
  go_enter Try.func71, Try.ntmps71
  go_wp2
  go_loopw [13] (fun i wr => ∃ (k m : Nat) (f : Nat → Obj) (dr : Nat), k ≤ p.length ∧ i = .int .i64 k ∧ w.heap.size ≤ m ∧ wr = pad w m f dr ∧ Hid (clB p q = clB (p.drop k) (q.drop k))) (fun i _ => p.length - (intOf i).toNat)
  case atStart =>
    obtain ⟨m, f, dr, hm, e⟩ := pad_of (Below.refl w.heap.size w)
    exact ⟨0, m, f, dr, Nat.zero_le _, rfl, hm, e, by unfold Hid; simp⟩
  case round =>
    obtain ⟨k, m, f, dr, hk, rfl, hm, rfl, hc⟩ := hrel
    by_cases hkl : k < p.length
    · have hkq : k < q.length := by have := hpq'.out; omega
      obtain ⟨a0, a1, a2, a3, a4⟩ := hp k p[k] (by simp [hkl])
      obtain ⟨b0, b1, b2, b3, b4⟩ := hq k q[k] (by simp [hkq])
      have hgm : g < m := by omega
      have hhm : h < m := by omega
      have hkl' : (k : Int) < (p.length : Int) := by omega
      have hc2 : Hid (clB p q = (cnB p[k] q[k] && clB (p.drop (k + 1)) (q.drop (k + 1)))) := by unfold Hid; rw [hc.out, clB_cons hkl hkq]
      generalize p[k] = x at *
      generalize q[k] = y at *
      clear hp hq hc
      cases hb : cnB x y
      · have hb1 : (x.d == y.d && eq4 x.a x.b x.c x.e y.a y.b y.c y.e) = false := hb
        rw [hb] at hc2
        have hc3 : Hid (clB p q = false) := by unfold Hid; rw [hc2.out]; rfl
        clear hb hc2
        go_wp2
        go_region
        all_goals go_wp2
        all_goals go_ret
        all_goals exact ⟨congrArg (fun b => Ending.returned (.bool b)) hc3.out.symm, by (repeat (first | (with_reducible exact Below.refl _ _) | (with_reducible assumption) | (with_reducible apply bd) | (with_reducible apply ba) | (with_reducible refine bp ?_ (by first | omega | (simp [pad_size]; done) | (simp [pad_size]; omega)) _ _) | (with_reducible refine bs ?_ (by first | omega | (simp [pad_size]; done) | (simp [pad_size]; omega)) _) | (with_reducible refine bt ?_ (by assumption))))⟩
      · have hb1 : (x.d == y.d && eq4 x.a x.b x.c x.e y.a y.b y.c y.e) = true := hb
        rw [hb] at hc2
        have hc3 : Hid (clB p q = clB (p.drop (k + 1)) (q.drop (k + 1))) := by unfold Hid; rw [hc2.out]; rfl
        clear hb hc2
        go_wp2
        go_region
        all_goals go_wp2
        all_goals go_roundw
        case rel => exact ⟨k + 1, m, f, dr + 1, by omega, by go_num, hm, by first | rfl | (simp [hpad]; done), hc3⟩
        case measure => (simp [intOf] <;> omega)
    · have hk' : k = p.length := by omega
      subst hk'
      have hc3 : Hid (clB p q = true) := by unfold Hid; rw [hc.out, List.drop_length, List.drop_of_length_le (by have := hpq'.out; omega)]; rfl
      clear hc
      go_wp2
      go_ret
      exact ⟨congrArg (fun b => Ending.returned (.bool b)) hc3.out.symm, by (repeat (first | (with_reducible exact Below.refl _ _) | (with_reducible assumption) | (with_reducible apply bd) | (with_reducible apply ba) | (with_reducible refine bp ?_ (by first | omega | (simp [pad_size]; done) | (simp [pad_size]; omega)) _ _) | (with_reducible refine bs ?_ (by first | omega | (simp [pad_size]; done) | (simp [pad_size]; omega)) _) | (with_reducible refine bt ?_ (by assumption))))⟩
set_option maxHeartbeats 1000000 in
theorem equalCL_nil (a b : Option Addr) (c d : Nat) (w : World) :
    Calls Try.prog 71 #[.slice a 0 c, .slice b 0 d] w fun e w' => e = .returned (.bool true) ∧ Below w.heap.size w w' := by
  go_enter Try.func71, Try.ntmps71
  go_wp2
  apply wp_loop_rounds 1
  simp only [Code.rounds]
  go_wp2
  go_ret
  exact ⟨rfl, by (repeat (first | (with_reducible exact Below.refl _ _) | (with_reducible assumption) | (with_reducible apply bd) | (with_reducible apply ba) | (with_reducible refine bp ?_ (by first | omega | (simp [pad_size]; done) | (simp [pad_size]; omega)) _ _) | (with_reducible refine bs ?_ (by first | omega | (simp [pad_size]; done) | (simp [pad_size]; omega)) _) | (with_reducible refine bt ?_ (by assumption))))⟩
set_option maxHeartbeats 1000000 in
theorem equalCL_len (a b : Option Addr) (m n c d : Nat) (h : m ≠ n) (w : World) :
    Calls Try.prog 71 #[.slice a m c, .slice b n d] w fun e w' => e = .returned (.bool false) ∧ Below w.heap.size w w' := by
  have h' : ¬ (m : Int) = (n : Int) := by omega
  go_enter Try.func71, Try.ntmps71
  go_wp2
  go_ret
  exact ⟨rfl, by (repeat (first | (with_reducible exact Below.refl _ _) | (with_reducible assumption) | (with_reducible apply bd) | (with_reducible apply ba) | (with_reducible refine bp ?_ (by first | omega | (simp [pad_size]; done) | (simp [pad_size]; omega)) _ _) | (with_reducible refine bs ?_ (by first | omega | (simp [pad_size]; done) | (simp [pad_size]; omega)) _) | (with_reducible refine bt ?_ (by assumption))))⟩
theorem equalCL_any {va vb : Value} {p q : List Cn} (w : World) (hA : IsCL w va p) (hB : IsCL w vb q) :
    Calls Try.prog 71 #[va, vb] w fun e w' => e = .returned (.bool (clB p q)) ∧ Below w.heap.size w w' := by
  by_cases hl : p.length = q.length
  · rcases hA with ⟨rfl, a, c, rfl⟩ | ⟨g, o, c, rfl, h0, h1, h2, h3⟩
    · obtain ⟨b, d, rfl⟩ := hB.slice
      obtain rfl : q = [] := List.eq_nil_of_length_eq_zero hl.symm
      exact equalCL_nil a b c d w
    · rcases hB with ⟨rfl, b, d, rfl⟩ | ⟨h, u, d, rfl, k0, k1, k2, k3⟩
      · exact absurd (List.eq_nil_of_length_eq_zero hl) h0
      · rw [← hl]
        exact equalCL_some g h o u c d p q h1 hl w h2 k2 h3 k3
  · obtain ⟨a, c, rfl⟩ := hA.slice
    obtain ⟨b, d, rfl⟩ := hB.slice
    rw [clB_len hl]
    exact equalCL_len a b _ _ c d hl w
end Go.Proofs.Ytmfnfnegnfpkiaa

/- Periods and plans held against each other: plan.Same. -/
namespace Go.Proofs.Ytmfnfnegnfpkiaa
open Go.RowKit

/-- A period: its length, its coins as they lie, what they are. -/
structure Pd where
  n : Int
  v : Value
  l : List Cn
def PdAt (W : World) (blk o : Nat) (x : Pd) : Prop := W.cell? ⟨blk, o, none⟩ = some (.int .u64 x.n) ∧ W.cell? ⟨blk, o + 1, none⟩ = some x.v ∧ IsCL W x.v x.l
/-- A slice's value that is a list of periods in a world. -/
def IsPds (W : World) (v : Value) (l : List Pd) : Prop :=
  (l = [] ∧ ∃ a cap, v = .slice a 0 cap) ∨ ∃ blk off cap, v = .slice (some ⟨blk, off, none⟩) l.length cap ∧ l ≠ [] ∧ l.length ≤ 9223372036854775807 ∧ blk < W.heap.size ∧ ∀ i x, l[i]? = some x → PdAt W blk (off + i * 2) x
theorem PdAt.below {W W' : World} {blk o : Nat} {x : Pd} (h : PdAt W blk o x) (hlt : blk < W.heap.size) (hb : Below W.heap.size W W') : PdAt W' blk o x :=
  ⟨(hb.cell (p := ⟨blk, _, none⟩) hlt).trans h.1, (hb.cell (p := ⟨blk, _, none⟩) hlt).trans h.2.1, h.2.2.below hb⟩
theorem IsPds.below {W W' : World} {v : Value} {l : List Pd} (h : IsPds W v l) (hb : Below W.heap.size W W') : IsPds W' v l := by
  rcases h with h | ⟨blk, off, cap, hv, hne, hlen, hlt, hall⟩
  · exact .inl h
  · exact .inr ⟨blk, off, cap, hv, hne, hlen, Nat.lt_of_lt_of_le hlt hb.size, fun i x hi => (hall i x hi).below hlt hb⟩
theorem IsPds.slice {W : World} {v : Value} {l : List Pd} (h : IsPds W v l) : ∃ a cap, v = .slice a l.length cap := by
  rcases h with ⟨rfl, a, cap, rfl⟩ | ⟨blk, off, cap, hv, _⟩
  · exact ⟨a, cap, rfl⟩
  · exact ⟨_, _, hv⟩
def pdB (x y : Pd) : Bool := x.n == y.n && clB x.l y.l
def plB : List Pd → List Pd → Bool
  | [], [] => true
  | x :: p, y :: q => pdB x y && plB p q
  | _, _ => false
theorem plB_len : ∀ {p q : List Pd}, p.length ≠ q.length → plB p q = false
  | [], [], h => absurd rfl h
  | [], _ :: _, _ => rfl
  | _ :: _, [], _ => rfl
  | x :: p, y :: q, h => by simp [plB, plB_len (p := p) (q := q) (by simpa using h)]
theorem plB_self : ∀ p : List Pd, plB p p = true
  | [] => rfl
  | x :: p => by simp [plB, pdB, clB_self, plB_self p]
theorem plB_cons {p q : List Pd} {k : Nat} (hp : k < p.length) (hq : k < q.length) : plB (p.drop k) (q.drop k) = (pdB p[k] q[k] && plB (p.drop (k + 1)) (q.drop (k + 1))) := by
  rw [List.drop_eq_getElem_cons hp, List.drop_eq_getElem_cons hq]; rfl
set_option maxHeartbeats 4000000 in
theorem samePd_any {W : World} {x y : Pd} (hx : IsCL W x.v x.l) (hy : IsCL W y.v y.l) :
    Calls Try.prog 73 #[.agg #[.int .u64 x.n, x.v], .agg #[.int .u64 y.n, y.v]] W fun e w' => e = .returned (.bool (pdB x y)) ∧ Below W.heap.size W w' := by
  obtain ⟨n, v, l⟩ := x
  obtain ⟨n', v', l'⟩ := y
  simp only at hx hy ⊢
  obtain ⟨a, c, rfl⟩ := hx.slice
  obtain ⟨a', c', rfl⟩ := hy.slice
  have hb : Below W.heap.size W ((W.alloc (.cells #[.int .u64 n, .slice a l.length c] 73)).alloc (.cells #[.int .u64 n', .slice a' l'.length c'] 73)) := ba (ba (Below.refl _ _) _) _
  have hE := equalCL_any _ (hx.below hb) (hy.below hb)
  by_cases hn : n = n'
  · subst hn
    have hp : Hid (pdB ⟨n, .slice a l.length c, l⟩ ⟨n, .slice a' l'.length c', l'⟩ = clB l l') := by unfold Hid; simp [pdB]
    go_enter Try.func73, Try.ntmps73
    go_wp2_with (go_at_call 71; refine hE.mono ?_; rintro e w1 ⟨rfl, hb1⟩)
    go_ret
    rw [hp.out]
    exact ⟨by simp, bt hb hb1⟩
  · have hp : Hid (pdB ⟨n, .slice a l.length c, l⟩ ⟨n', .slice a' l'.length c', l'⟩ = false) := by unfold Hid; simp [pdB, hn]
    have hd : (n == n') = false := by simpa using hn
    clear hE
    go_enter Try.func73, Try.ntmps73
    go_wp2
    go_ret
    rw [hp.out]
    exact ⟨by simp, hb⟩
set_option maxRecDepth 10000 in
set_option maxHeartbeats 8000000 in
theorem equalPd_some (g h o u c d : Nat) (p q : List Pd) (hlen : p.length ≤ 9223372036854775807) (hpq : p.length = q.length) (W : World) (hg : g < W.heap.size) (hh : h < W.heap.size)
    (hp : ∀ i x, p[i]? = some x → PdAt W g (o + i * 2) x) (hq : ∀ i x, q[i]? = some x → PdAt W h (u + i * 2) x) :
    Calls Try.prog 72 #[.slice (some ⟨g, o, none⟩) p.length c, .slice (some ⟨h, u, none⟩) p.length d, .func (.func 73) #[] #[]] W fun e w' => e = .returned (.bool (plB p q)) ∧ Below W.heap.size W w' := by
  have hpq' : Hid _ := hpq
  clear hpq
  have hlen' : (p.length : Int) ≤ 9223372036854775807 := by omega
  go_enter Try.func72, Try.ntmps72
  go_wp2
  go_loopw [17] (fun iv X => ∃ (i : Nat), i ≤ p.length ∧ iv = .int .i64 (i : Int) ∧ Hid (plB p q = plB (p.drop i) (q.drop i)) ∧ Below W.heap.size W X) (fun iv _ => p.length - (intOf iv).toNat)
  case atStart => exact ⟨0, by omega, rfl, by unfold Hid; simp, Below.refl _ _⟩
  case round =>
    obtain ⟨i, hi, rfl, hc, hX⟩ := hrel
    by_cases hlt : i < p.length
    · have hlt' : (i : Int) < (p.length : Int) := by omega
      have hiq : i < q.length := by have := hpq'.out; omega
      have hxA := hp i p[i] (List.getElem?_eq_getElem hlt)
      have hyA := hq i q[i] (List.getElem?_eq_getElem hiq)
      obtain ⟨d0, d1, hxc⟩ := hxA.below hg hX
      obtain ⟨e0, e1, hyc⟩ := hyA.below hh hX
      have hc2 : Hid (plB p q = (pdB p[i] q[i] && plB (p.drop (i + 1)) (q.drop (i + 1)))) := by unfold Hid; rw [hc.out, plB_cons hlt hiq]
      have hC : Hid (∀ X, Below wr.heap.size wr X → Calls Try.prog 73 #[.agg #[.int .u64 p[i].n, p[i].v], .agg #[.int .u64 q[i].n, q[i].v]] X fun e w' => e = .returned (.bool (pdB p[i] q[i])) ∧ Below X.heap.size X w') := fun X hX => samePd_any (hxc.below hX) (hyc.below hX)
      have hgX : g < wr.heap.size := Nat.lt_of_lt_of_le hg hX.size
      have hhX : h < wr.heap.size := Nat.lt_of_lt_of_le hh hX.size
      obtain ⟨a1, c1, ev1⟩ := hxc.slice
      obtain ⟨a2, c2, ev2⟩ := hyc.slice
      rw [ev1] at d1 hC
      rw [ev2] at e1 hC
      have hBox : Below wr.heap.size wr (wr.alloc (.cells #[.int .u64 p[i].n, .slice a1 p[i].l.length c1] 73)) := ba (Below.refl _ _) _
      have f0 := (hBox.cell (p := ⟨h, u + i * 2, none⟩) hhX).trans e0
      have f1 := (hBox.cell (p := ⟨h, u + i * 2 + 1, none⟩) hhX).trans e1
      clear hxA hyA hp hq hc ev1 ev2 hxc hyc
      cases hb : pdB p[i] q[i]
      · rw [hb] at hC hc2
        have hc3 : Hid (plB p q = false) := by unfold Hid; rw [hc2.out]; rfl
        clear hb hc2
        go_wp2_with (go_at_call 73; refine (hC.out _ (ba (ba (Below.refl _ _) _) _)).mono ?_; rintro e w3 ⟨rfl, hb3⟩)
        go_ret
        exact ⟨congrArg (fun b => Ending.returned (.bool b)) hc3.out.symm, bt (ba (ba hX _) _) hb3⟩
      · rw [hb] at hC hc2
        have hc3 : Hid (plB p q = plB (p.drop (i + 1)) (q.drop (i + 1))) := by unfold Hid; rw [hc2.out]; rfl
        clear hb hc2
        go_wp2_with (go_at_call 73; refine (hC.out _ (ba (ba (Below.refl _ _) _) _)).mono ?_; rintro e w3 ⟨rfl, hb3⟩)
        all_goals go_roundw
        case rel => exact ⟨i + 1, by omega, by go_num, hc3, bt (ba (ba hX _) _) hb3⟩
        case measure => (simp [intOf]; omega)
    · obtain rfl : i = p.length := by omega
      have hc3 : Hid (plB p q = true) := by unfold Hid; rw [hc.out, List.drop_length, List.drop_of_length_le (by have := hpq'.out; omega)]; rfl
      clear hc
      go_wp2
      go_ret
      exact ⟨congrArg (fun b => Ending.returned (.bool b)) hc3.out.symm, hX⟩
set_option maxHeartbeats 1000000 in
theorem equalPd_nil (a b : Option Addr) (c d : Nat) (f : Value) (w : World) :
    Calls Try.prog 72 #[.slice a 0 c, .slice b 0 d, f] w fun e w' => e = .returned (.bool true) ∧ Below w.heap.size w w' := by
  go_enter Try.func72, Try.ntmps72
  go_wp2
  apply wp_loop_rounds 1
  simp only [Code.rounds]
  go_wp2
  go_ret
  exact ⟨rfl, Below.refl _ _⟩
set_option maxHeartbeats 1000000 in
theorem equalPd_len (a b : Option Addr) (m n c d : Nat) (f : Value) (h : m ≠ n) (w : World) :
    Calls Try.prog 72 #[.slice a m c, .slice b n d, f] w fun e w' => e = .returned (.bool false) ∧ Below w.heap.size w w' := by
  have h' : ¬ (m : Int) = (n : Int) := by omega
  go_enter Try.func72, Try.ntmps72
  go_wp2
  go_ret
  exact ⟨rfl, Below.refl _ _⟩
theorem equalPd_any {va vb : Value} {p q : List Pd} (w : World) (hA : IsPds w va p) (hB : IsPds w vb q) :
    Calls Try.prog 72 #[va, vb, .func (.func 73) #[] #[]] w fun e w' => e = .returned (.bool (plB p q)) ∧ Below w.heap.size w w' := by
  by_cases hl : p.length = q.length
  · rcases hA with ⟨rfl, a, c, rfl⟩ | ⟨g, o, c, rfl, h0, h1, h2, h3⟩
    · obtain ⟨b, d, rfl⟩ := hB.slice
      obtain rfl : q = [] := List.eq_nil_of_length_eq_zero hl.symm
      exact equalPd_nil a b c d _ w
    · rcases hB with ⟨rfl, b, d, rfl⟩ | ⟨h, u, d, rfl, k0, k1, k2, k3⟩
      · exact absurd (List.eq_nil_of_length_eq_zero hl) h0
      · rw [← hl]
        exact equalPd_some g h o u c d p q h1 hl w h2 k2 h3 k3
  · obtain ⟨a, c, rfl⟩ := hA.slice
    obtain ⟨b, d, rfl⟩ := hB.slice
    rw [plB_len hl]
    exact equalPd_len a b _ _ c d _ hl w
/-- A plan: its kind, when it begins and ends, its coins and periods as they lie, what they are. -/
structure Pn where
  k : Int
  s : Int
  e : Int
  av : Value
  pv : Value
  al : List Cn
  pl : List Pd
def pnV (x : Pn) : Value := .agg #[.int .u8 x.k, .int .u64 x.s, .int .u64 x.e, x.av, x.pv]
def PnAt (W : World) (x : Pn) : Prop := IsCL W x.av x.al ∧ IsPds W x.pv x.pl
theorem PnAt.below {W W' : World} {x : Pn} (h : PnAt W x) (hb : Below W.heap.size W W') : PnAt W' x := ⟨h.1.below hb, h.2.below hb⟩
def pnB (x y : Pn) : Bool := x.k == y.k && x.s == y.s && x.e == y.e && clB x.al y.al && plB x.pl y.pl
theorem pnB_self (x : Pn) : pnB x x = true := by simp [pnB, clB_self, plB_self]
set_option maxHeartbeats 4000000 in
theorem planSame_any {W : World} {x y : Pn} (hx : PnAt W x) (hy : PnAt W y) :
    Calls Try.prog 38 #[pnV x, pnV y] W fun e w' => e = .returned (.bool (pnB x y)) ∧ Below W.heap.size W w' := by
  obtain ⟨k, s, t, av, pv, al, pl⟩ := x
  obtain ⟨k', s', t', av', pv', al', pl'⟩ := y
  obtain ⟨hx1, hx2⟩ := hx
  obtain ⟨hy1, hy2⟩ := hy
  simp only at hx1 hx2 hy1 hy2
  obtain ⟨a1, c1, rfl⟩ := hx1.slice
  obtain ⟨a2, c2, rfl⟩ := hx2.slice
  obtain ⟨a3, c3, rfl⟩ := hy1.slice
  obtain ⟨a4, c4, rfl⟩ := hy2.slice
  show Calls Try.prog 38 #[.agg #[.int .u8 k, .int .u64 s, .int .u64 t, .slice a1 al.length c1, .slice a2 pl.length c2], .agg #[.int .u8 k', .int .u64 s', .int .u64 t', .slice a3 al'.length c3, .slice a4 pl'.length c4]] W _
  have hb : Below W.heap.size W ((W.alloc (.cells #[.int .u8 k, .int .u64 s, .int .u64 t, .slice a1 al.length c1, .slice a2 pl.length c2] 26)).alloc (.cells #[.int .u8 k', .int .u64 s', .int .u64 t', .slice a3 al'.length c3, .slice a4 pl'.length c4] 26)) := ba (ba (Below.refl _ _) _) _
  have hE := equalCL_any _ (hx1.below hb) (hy1.below hb)
  have hF : Hid (∀ X, Below W.heap.size W X → Calls Try.prog 72 #[.slice a2 pl.length c2, .slice a4 pl'.length c4, .func (.func 73) #[] #[]] X fun e w' => e = .returned (.bool (plB pl pl')) ∧ Below X.heap.size X w') := fun X hX => equalPd_any X (hx2.below hX) (hy2.below hX)
  have hkeep : Hid (∀ X, Below ((W.alloc (.cells #[.int .u8 k, .int .u64 s, .int .u64 t, .slice a1 al.length c1, .slice a2 pl.length c2] 26)).alloc (.cells #[.int .u8 k', .int .u64 s', .int .u64 t', .slice a3 al'.length c3, .slice a4 pl'.length c4] 26)).heap.size ((W.alloc (.cells #[.int .u8 k, .int .u64 s, .int .u64 t, .slice a1 al.length c1, .slice a2 pl.length c2] 26)).alloc (.cells #[.int .u8 k', .int .u64 s', .int .u64 t', .slice a3 al'.length c3, .slice a4 pl'.length c4] 26)) X → X.cell? ⟨W.heap.size, 4, none⟩ = some (.slice a2 pl.length c2) ∧ X.cell? ⟨W.heap.size + 1, 4, none⟩ = some (.slice a4 pl'.length c4)) := fun X hX => by
    have q1 := (hX.block W.heap.size (by simp; omega)).trans (al_old (by simp))
    have q2 := (hX.block (W.heap.size + 1) (by simp)).trans (al_at (by simp))
    rw [al_at rfl] at q1
    exact ⟨(cells_of_block q1).1 4, (cells_of_block q2).1 4⟩
  have hres : Hid (pnB ⟨k, s, t, .slice a1 al.length c1, .slice a2 pl.length c2, al, pl⟩ ⟨k', s', t', .slice a3 al'.length c3, .slice a4 pl'.length c4, al', pl'⟩ = (k == k' && s == s' && t == t' && clB al al' && plB pl pl')) := rfl
  by_cases hk : k = k'
  · subst hk
    by_cases hs : s = s'
    · subst hs
      by_cases ht : t = t'
      · subst ht
        cases hc : clB al al'
        · rw [hc] at hE
          have hf : Hid (pnB ⟨k, s, t, .slice a1 al.length c1, .slice a2 pl.length c2, al, pl⟩ ⟨k, s, t, .slice a3 al'.length c3, .slice a4 pl'.length c4, al', pl'⟩ = false) := by unfold Hid; rw [hres.out, hc]; simp
          clear hres hc
          go_enter Try.func38, Try.ntmps38
          go_wp2_with (go_at_call 71; refine hE.mono ?_; rintro e w1 ⟨rfl, hb1⟩)
          go_ret
          rw [hf.out]
          exact ⟨by simp, bt hb hb1⟩
        · rw [hc] at hE
          have hf : Hid (pnB ⟨k, s, t, .slice a1 al.length c1, .slice a2 pl.length c2, al, pl⟩ ⟨k, s, t, .slice a3 al'.length c3, .slice a4 pl'.length c4, al', pl'⟩ = plB pl pl') := by unfold Hid; rw [hres.out, hc]; simp
          clear hres hc
          go_enter Try.func38, Try.ntmps38
          go_wp2_with (first
            | (go_at_call 71; refine hE.mono ?_; rintro e w1 ⟨rfl, hb1⟩; obtain ⟨q1, q2⟩ := hkeep.out _ hb1)
            | (go_at_call 72; refine (hF.out _ (bt hb hb1)).mono ?_; rintro e w2 ⟨rfl, hb2⟩))
          go_ret
          rw [hf.out]
          exact ⟨by simp, bt (bt hb hb1) hb2⟩
      · have hd : (t == t') = false := by simpa using ht
        have hf : Hid (pnB ⟨k, s, t, .slice a1 al.length c1, .slice a2 pl.length c2, al, pl⟩ ⟨k, s, t', .slice a3 al'.length c3, .slice a4 pl'.length c4, al', pl'⟩ = false) := by unfold Hid; rw [hres.out, hd]; simp
        clear hres
        go_enter Try.func38, Try.ntmps38
        go_wp2
        go_ret
        rw [hf.out]
        exact ⟨by simp, hb⟩
    · have hd : (s == s') = false := by simpa using hs
      have hf : Hid (pnB ⟨k, s, t, .slice a1 al.length c1, .slice a2 pl.length c2, al, pl⟩ ⟨k, s', t', .slice a3 al'.length c3, .slice a4 pl'.length c4, al', pl'⟩ = false) := by unfold Hid; rw [hres.out, hd]; simp
      clear hres
      go_enter Try.func38, Try.ntmps38
      go_wp2
      go_ret
      rw [hf.out]
      exact ⟨by simp, hb⟩
  · have hd : (k == k') = false := by simpa using hk
    have hf : Hid (pnB ⟨k, s, t, .slice a1 al.length c1, .slice a2 pl.length c2, al, pl⟩ ⟨k', s', t', .slice a3 al'.length c3, .slice a4 pl'.length c4, al', pl'⟩ = false) := by unfold Hid; rw [hres.out, hd]; simp
    clear hres
    go_enter Try.func38, Try.ntmps38
    go_wp2
    go_ret
    rw [hf.out]
    exact ⟨by simp, hb⟩
end Go.Proofs.Ytmfnfnegnfpkiaa

/- plan's some and gives; Right of a plan without periods. -/
namespace Go.Proofs.Ytmfnfnegnfpkiaa
open Go.RowKit

theorem rightCL_any {v : Value} {l : List Cn} (w : World) (h : IsCL w v l) (hwf : ∀ x ∈ l, CnWf x) :
    Calls Try.prog 97 #[v] w fun e w' => e = .returned (.bool (rightFrom 0 l)) ∧ Below w.heap.size w w' := by
  rcases h with ⟨rfl, a, cap, rfl⟩ | ⟨blk, off, cap, rfl, _, hlen, hlt, hall⟩
  · exact right_none a cap w
  · exact right_some blk off cap l w hlen hlt hall hwf
theorem rightRCL_any {v : Value} {l : List Cn} (w : World) (h : IsCL w v l) (hwf : ∀ x ∈ l, CnWf x) :
    Calls Try.prog 24 #[v] w fun e w' => e = .returned (.bool (rightFrom 0 l)) ∧ Below w.heap.size w w' := by
  rcases h with ⟨rfl, a, cap, rfl⟩ | ⟨blk, off, cap, rfl, _, hlen, hlt, hall⟩
  · exact rightR_none a cap w
  · exact rightR_some blk off cap l w hlen hlt hall hwf
theorem IsCL.len {W : World} {v : Value} {l : List Cn} (h : IsCL W v l) : l.length ≤ 9223372036854775807 := by
  rcases h with ⟨rfl, -⟩ | ⟨_, _, _, _, _, h, _⟩
  · simp
  · exact h
theorem IsPds.len {W : World} {v : Value} {l : List Pd} (h : IsPds W v l) : l.length ≤ 9223372036854775807 := by
  rcases h with ⟨rfl, -⟩ | ⟨_, _, _, _, _, h, _⟩
  · simp
  · exact h
/-- Coins that may be, and not none. -/
def someB (l : List Cn) : Bool := !l.isEmpty && rightFrom 0 l
set_option maxHeartbeats 4000000 in
theorem some_any {v : Value} {l : List Cn} (w : World) (h : IsCL w v l) (hwf : ∀ x ∈ l, CnWf x) :
    Calls Try.prog 77 #[v] w fun e w' => e = .returned (.bool (someB l)) ∧ Below w.heap.size w w' := by
  have hR := rightCL_any w h hwf
  have hlen := h.len
  obtain ⟨a, c, rfl⟩ := h.slice
  by_cases hl : l = []
  · subst hl
    clear hR
    go_enter Try.func77, Try.ntmps77
    go_wp2
    go_ret
    exact ⟨rfl, Below.refl _ _⟩
  · have hl0 : 0 < l.length := by cases l with | nil => exact absurd rfl hl | cons _ _ => simp
    have hl1 : (0 : Int) < (l.length : Int) := by omega
    have hd : decide (0 < l.length) = true := decide_eq_true hl0
    have hs : Hid (someB l = rightFrom 0 l) := by unfold Hid someB; cases l with | nil => exact absurd rfl hl | cons _ _ => rfl
    clear hl
    go_enter Try.func77, Try.ntmps77
    go_wp2_with (go_at_call 97; refine hR.mono ?_; rintro e w1 ⟨rfl, hb1⟩)
    go_ret
    rw [hs.out]
    exact ⟨by simp, hb1⟩
/-- A plan whose parts are what they may be, but for whether it may be. -/
structure PnWf (x : Pn) : Prop where
  k : 0 ≤ x.k ∧ x.k ≤ 255
  s : 0 ≤ x.s ∧ x.s < 18446744073709551616
  e : 0 ≤ x.e ∧ x.e < 18446744073709551616
  al : ∀ y ∈ x.al, CnWf y
def givesB (x : Pn) : Bool := someB x.al && decide (x.e ≤ 1099511627776)
set_option maxHeartbeats 4000000 in
theorem gives_any {x : Pn} (w : World) (h : PnAt w x) (hw : PnWf x) :
    Calls Try.prog 44 #[pnV x] w fun e w' => e = .returned (.bool (givesB x)) ∧ Below w.heap.size w w' := by
  obtain ⟨k, s, t, av, pv, al, pl⟩ := x
  obtain ⟨h1, h2⟩ := h
  simp only at h1 h2
  have hwf := hw.al
  simp only at hwf
  obtain ⟨a1, c1, rfl⟩ := h1.slice
  obtain ⟨a2, c2, rfl⟩ := h2.slice
  show Calls Try.prog 44 #[.agg #[.int .u8 k, .int .u64 s, .int .u64 t, .slice a1 al.length c1, .slice a2 pl.length c2]] w _
  have hb : Below w.heap.size w (w.alloc (.cells #[.int .u8 k, .int .u64 s, .int .u64 t, .slice a1 al.length c1, .slice a2 pl.length c2] 26)) := ba (Below.refl _ _) _
  have hS := some_any _ (h1.below hb) hwf
  have hg : Hid (givesB ⟨k, s, t, .slice a1 al.length c1, .slice a2 pl.length c2, al, pl⟩ = (someB al && decide (t ≤ 1099511627776))) := rfl
  have hkeep : Hid (∀ X, Below (w.alloc (.cells #[.int .u8 k, .int .u64 s, .int .u64 t, .slice a1 al.length c1, .slice a2 pl.length c2] 26)).heap.size (w.alloc (.cells #[.int .u8 k, .int .u64 s, .int .u64 t, .slice a1 al.length c1, .slice a2 pl.length c2] 26)) X → X.cell? ⟨w.heap.size, 2, none⟩ = some (.int .u64 t)) := fun X hX => by
    have q1 := (hX.block w.heap.size (by simp)).trans (al_at rfl)
    exact (cells_of_block q1).1 2
  cases hs : someB al
  · rw [hs] at hS hg
    clear hs
    go_enter Try.func44, Try.ntmps44
    go_wp2_with (go_at_call 77; refine hS.mono ?_; rintro e w1 ⟨rfl, hb1⟩)
    go_ret
    rw [hg.out]
    exact ⟨by simp, bt hb hb1⟩
  · rw [hs] at hS hg
    clear hs
    go_enter Try.func44, Try.ntmps44
    go_wp2_with (go_at_call 77; refine hS.mono ?_; rintro e w1 ⟨rfl, hb1⟩; have q := hkeep.out _ hb1)
    go_ret
    rw [hg.out]
    exact ⟨by simp, bt hb hb1⟩
/-- May a plan without periods be? (Kinds 3 and 5 aside.) -/
def rightN (x : Pn) : Bool :=
  if x.k = 0 then x.s == 0 && x.e == 0 && x.al.isEmpty && x.pl.isEmpty
  else if x.k = 1 then decide (x.s < x.e) && givesB x && x.pl.isEmpty
  else if x.k = 2 then x.s == 0 && givesB x && x.pl.isEmpty
  else if x.k = 4 then x.s == 0 && x.e == 0 && givesB x && x.pl.isEmpty
  else false
theorem clB_nil (l : List Cn) : clB l [] = l.isEmpty := by cases l <;> rfl
theorem plB_nil (l : List Pd) : plB l [] = l.isEmpty := by cases l <;> rfl
def pnZ : Pn := ⟨0, 0, 0, .slice none 0 0, .slice none 0 0, [], []⟩
theorem pnZ_at (W : World) : PnAt W pnZ := ⟨.inl ⟨rfl, _, _, rfl⟩, .inl ⟨rfl, _, _, rfl⟩⟩
section
variable {s t : Int} {a1 a2 : Option Addr} {c1 c2 : Nat} {al : List Cn} {pl : List Pd}
set_option maxHeartbeats 4000000 in
theorem planRight_0 (w : World) (h : PnAt w ⟨0, s, t, .slice a1 al.length c1, .slice a2 pl.length c2, al, pl⟩) :
    Calls Try.prog 13 #[.agg #[.int .u8 0, .int .u64 s, .int .u64 t, .slice a1 al.length c1, .slice a2 pl.length c2]] w fun e w' => e = .returned (.bool (s == 0 && t == 0 && al.isEmpty && pl.isEmpty)) ∧ Below w.heap.size w w' := by
  have hb : Below w.heap.size w (w.alloc (.cells #[.int .u8 0, .int .u64 s, .int .u64 t, .slice a1 al.length c1, .slice a2 pl.length c2] 26)) := ba (Below.refl _ _) _
  have hS := planSame_any (h.below hb) (pnZ_at _)
  have hr : Hid (pnB ⟨0, s, t, .slice a1 al.length c1, .slice a2 pl.length c2, al, pl⟩ pnZ = (s == 0 && t == 0 && al.isEmpty && pl.isEmpty)) := by
    unfold Hid pnB pnZ; simp [clB_nil, plB_nil]
  rw [hr.out] at hS
  have hS' : Calls Try.prog 38 #[.agg #[.int .u8 0, .int .u64 s, .int .u64 t, .slice a1 al.length c1, .slice a2 pl.length c2], .agg #[.int .u8 0, .int .u64 0, .int .u64 0, .slice none 0 0, .slice none 0 0]] _ _ := hS
  clear hS hr
  go_enter Try.func13, Try.ntmps13
  go_wp2_with (go_at_call 38; refine hS'.mono ?_; rintro e w1 ⟨rfl, hb1⟩)
  go_ret
  exact ⟨rfl, bt hb hb1⟩
set_option maxHeartbeats 4000000 in
theorem planRight_1 (w : World) (h : PnAt w ⟨1, s, t, .slice a1 al.length c1, .slice a2 pl.length c2, al, pl⟩) (hw : PnWf ⟨1, s, t, .slice a1 al.length c1, .slice a2 pl.length c2, al, pl⟩) :
    Calls Try.prog 13 #[.agg #[.int .u8 1, .int .u64 s, .int .u64 t, .slice a1 al.length c1, .slice a2 pl.length c2]] w fun e w' => e = .returned (.bool (decide (s < t) && givesB ⟨1, s, t, .slice a1 al.length c1, .slice a2 pl.length c2, al, pl⟩ && pl.isEmpty)) ∧ Below w.heap.size w w' := by
  have hb : Below w.heap.size w (w.alloc (.cells #[.int .u8 1, .int .u64 s, .int .u64 t, .slice a1 al.length c1, .slice a2 pl.length c2] 26)) := ba (Below.refl _ _) _
  have hG := gives_any _ (h.below hb) hw
  have hG' : Calls Try.prog 44 #[.agg #[.int .u8 1, .int .u64 s, .int .u64 t, .slice a1 al.length c1, .slice a2 pl.length c2]] _ _ := hG
  have hkeep : Hid (∀ X, Below (w.alloc (.cells #[.int .u8 1, .int .u64 s, .int .u64 t, .slice a1 al.length c1, .slice a2 pl.length c2] 26)).heap.size (w.alloc (.cells #[.int .u8 1, .int .u64 s, .int .u64 t, .slice a1 al.length c1, .slice a2 pl.length c2] 26)) X → X.cell? ⟨w.heap.size, 4, none⟩ = some (.slice a2 pl.length c2)) := fun X hX => by
    have q1 := (hX.block w.heap.size (by simp)).trans (al_at rfl)
    exact (cells_of_block q1).1 4
  have hpn := h.2.len
  clear hG
  by_cases hst : s < t
  · have hd : decide (s < t) = true := decide_eq_true hst
    cases hg : givesB ⟨1, s, t, .slice a1 al.length c1, .slice a2 pl.length c2, al, pl⟩
    · rw [hg] at hG'
      go_enter Try.func13, Try.ntmps13
      go_wp2_with (go_at_call 44; refine hG'.mono ?_; rintro e w1 ⟨rfl, hb1⟩)
      go_ret
      exact ⟨by simp, bt hb hb1⟩
    · rw [hg] at hG'
      go_enter Try.func13, Try.ntmps13
      go_wp2_with (go_at_call 44; refine hG'.mono ?_; rintro e w1 ⟨rfl, hb1⟩; have q := hkeep.out _ hb1)
      go_ret
      refine ⟨?_, bt hb hb1⟩
      cases pl with
      | nil => simp [hst]
      | cons y pl => simp; omega
  · have hd : decide (s < t) = false := decide_eq_false hst
    clear hG' hkeep
    go_enter Try.func13, Try.ntmps13
    go_wp2
    go_ret
    exact ⟨by simp, hb⟩
set_option maxHeartbeats 4000000 in
theorem planRight_6 (k : Int) (hk : 5 < k) (hk2 : k ≤ 255) (w : World) (v1 v2 : Value) :
    Calls Try.prog 13 #[.agg #[.int .u8 k, .int .u64 s, .int .u64 t, v1, v2]] w fun e w' => e = .returned (.bool false) ∧ Below w.heap.size w w' := by
  have h0 : ¬ k = 0 := by omega
  have h1 : ¬ k = 1 := by omega
  have h2 : ¬ k = 2 := by omega
  have h3 : ¬ k = 3 := by omega
  have h4 : ¬ k = 4 := by omega
  have h5 : ¬ k = 5 := by omega
  go_enter Try.func13, Try.ntmps13
  go_wp2
  go_ret
  exact ⟨rfl, ba (Below.refl _ _) _⟩
end
end Go.Proofs.Ytmfnfnegnfpkiaa
