
/- Several texts, one behind the other: MA1, PL5, PV, MA2, PL6, PL7, Q, X1. -/
import Derived.Test.YtmfnfnegnfpkiaaPM1
import Derived.Deep.CutRange
import Derived.Test.YtmfnfnegnfpkiaaV
import Derived.Test.YtmfnfnegnfpkiaaV6
import Derived.Test.YtmfnfnegnfpkiaaG
/- jointurelaw06.of: right coins of any. -/
set_option linter.unusedSimpArgs false
set_option linter.unusedVariables false
set_option maxRecDepth 20000
namespace Go.Proofs.Ytmfnfnegnfpkiaa
open Go.RowKit

/-- A coin whose number is no great one. -/
def capC (x : Cn) : Cn := ⟨x.d, x.a, x.b, x.c, x.e % 288230376151711744⟩
def ofM (l : List Cn) : Nat → Cn := ofP (l.map capC)
theorem ofM_snoc (l : List Cn) (x : Cn) : ofM (l ++ [x]) = putP (ofM l) (x.d % 8).toNat (capC x) := by
  unfold ofM; rw [List.map_append, List.map_cons, List.map_nil, ofP_snoc]; rfl
theorem ofM_nil : ofM [] = zeroP := rfl
/-- Small numbers. -/
def SmallP (z : Nat → Cn) : Prop := ∀ d, d < 8 → LimC (z d) ∧ (z d).d = d ∧ (z d).e < 288230376151711744
theorem SmallP.purse {z : Nat → Cn} (h : SmallP z) : Purse z := fun d hd => ⟨(h d hd).1, (h d hd).2.1⟩
theorem small_put {z : Nat → Cn} (h : SmallP z) (k : Nat) {x : Cn} (hx : LimC x) : SmallP (putP z k (capC x)) := by
  intro d hd
  unfold putP
  by_cases e : d = k
  · simp only [e, if_true]
    unfold LimC Lim at hx ⊢
    simp only [capC, and_true]
    refine ⟨?_, trivial, ?_⟩ <;> omega
  · simp only [e, if_false]; exact h d hd
theorem ofM_small {l : List Cn} (h : ∀ x ∈ l, LimC x) : SmallP (ofM l) := by
  have key : ∀ (n : Nat) (l : List Cn), l.length = n → (∀ x ∈ l, LimC x) → SmallP (ofM l) := by
    intro n
    induction n with
    | zero =>
      intro l hl _
      obtain rfl := List.eq_nil_of_length_eq_zero hl
      intro d hd
      exact ⟨(purse_zero d hd).1, (purse_zero d hd).2, by show (0 : Int) < _; omega⟩
    | succ n ih =>
      intro l hl hx
      have hne : l ≠ [] := fun e => by subst e; simp at hl
      rw [← List.dropLast_concat_getLast hne, ofM_snoc]
      exact small_put (ih l.dropLast (by simp [hl]) fun x h => hx x (List.dropLast_subset _ h)) _ (hx _ (List.getLast_mem hne))
  exact key _ l rfl h
/-- What law06.of makes. -/
def mkL (l : List Cn) : List Cn := if lst (ofM l) 8 = [] then [⟨0, 1, 0, 0, 0⟩] else lst (ofM l) 8
theorem listR_gives (z : Nat → Cn) (hz : Purse z) (w : World) :
    Calls Try.prog 53 #[.agg #[.int .u64 (z 0).a, .int .u64 (z 0).b, .int .u64 (z 0).c, .int .u64 (z 0).e, .int .u64 (z 1).a, .int .u64 (z 1).b, .int .u64 (z 1).c, .int .u64 (z 1).e, .int .u64 (z 2).a, .int .u64 (z 2).b, .int .u64 (z 2).c, .int .u64 (z 2).e, .int .u64 (z 3).a, .int .u64 (z 3).b, .int .u64 (z 3).c, .int .u64 (z 3).e, .int .u64 (z 4).a, .int .u64 (z 4).b, .int .u64 (z 4).c, .int .u64 (z 4).e, .int .u64 (z 5).a, .int .u64 (z 5).b, .int .u64 (z 5).c, .int .u64 (z 5).e, .int .u64 (z 6).a, .int .u64 (z 6).b, .int .u64 (z 6).c, .int .u64 (z 6).e, .int .u64 (z 7).a, .int .u64 (z 7).b, .int .u64 (z 7).c, .int .u64 (z 7).e]] w fun e w' => ∃ a n c, e = .returned (.slice a n c) ∧ n = (lst z 8).length ∧ IsCoins w' (.slice a n c) (lst z 8) ∧ (∀ g, (Value.slice a n c).ownBlock = some g → w.heap.size ≤ g ∧ g < w'.heap.size) ∧ Below w.heap.size w w' := by
  refine (listR_any z hz w).mono ?_
  rintro e w' ⟨v, rfl, ho, hb⟩
  obtain ⟨a, c, rfl⟩ := row_slice ho
  exact ⟨a, _, c, rfl, rfl, own_coins ho (lst8 _), fun g hg => ho.lt g hg, hb⟩
theorem listR_nothing (z : Nat → Cn) (hz : Purse z) (hq : lst z 8 = []) (w : World) :
    Calls Try.prog 53 #[.agg #[.int .u64 (z 0).a, .int .u64 (z 0).b, .int .u64 (z 0).c, .int .u64 (z 0).e, .int .u64 (z 1).a, .int .u64 (z 1).b, .int .u64 (z 1).c, .int .u64 (z 1).e, .int .u64 (z 2).a, .int .u64 (z 2).b, .int .u64 (z 2).c, .int .u64 (z 2).e, .int .u64 (z 3).a, .int .u64 (z 3).b, .int .u64 (z 3).c, .int .u64 (z 3).e, .int .u64 (z 4).a, .int .u64 (z 4).b, .int .u64 (z 4).c, .int .u64 (z 4).e, .int .u64 (z 5).a, .int .u64 (z 5).b, .int .u64 (z 5).c, .int .u64 (z 5).e, .int .u64 (z 6).a, .int .u64 (z 6).b, .int .u64 (z 6).c, .int .u64 (z 6).e, .int .u64 (z 7).a, .int .u64 (z 7).b, .int .u64 (z 7).c, .int .u64 (z 7).e]] w fun e w' => ∃ a c, e = .returned (.slice a 0 c) ∧ Below w.heap.size w w' := by
  refine (listR_gives z hz w).mono ?_
  rintro e w' ⟨a, n, c, rfl, hn, -, -, hb⟩
  rw [hq] at hn
  subst hn
  exact ⟨a, c, rfl, hb⟩
set_option maxRecDepth 100000 in
set_option maxHeartbeats 16000000 in
theorem of6_some (a : Option Addr) (cap : Nat) (l : List Cn) (w : World) (hlen : l.length ≤ 1048576) (hall : ∀ i x, l[i]? = some x → ∃ blk off, a = some ⟨blk, off, none⟩ ∧ blk < w.heap.size ∧ CnAt w blk (off + i * 5) x) (hwf : ∀ x ∈ l, CnWf x) :
    Calls Try.prog 46 #[.slice a l.length cap] w fun e w' => ∃ v, e = .returned v ∧ IsCoins w' v (mkL l) ∧ (∀ g, v.ownBlock = some g → w.heap.size ≤ g ∧ g < w'.heap.size) ∧ Below w.heap.size w w' := by
  have hpad := pads
  go_enter Try.func46, Try.ntmps46
  go_wp2
  go_loopw [4] (fun i wr => ∃ (k m : Nat) (g : Nat → Obj) (dr : Nat) (z : Nat → Cn), k ≤ l.length ∧ i = .int .i64 k ∧ Hid (z = ofM (l.take k)) ∧ w.heap.size + 1 ≤ m ∧ wr = pad (w.alloc (.cells #[.int .u64 (z 0).a, .int .u64 (z 0).b, .int .u64 (z 0).c, .int .u64 (z 0).e, .int .u64 (z 1).a, .int .u64 (z 1).b, .int .u64 (z 1).c, .int .u64 (z 1).e, .int .u64 (z 2).a, .int .u64 (z 2).b, .int .u64 (z 2).c, .int .u64 (z 2).e, .int .u64 (z 3).a, .int .u64 (z 3).b, .int .u64 (z 3).c, .int .u64 (z 3).e, .int .u64 (z 4).a, .int .u64 (z 4).b, .int .u64 (z 4).c, .int .u64 (z 4).e, .int .u64 (z 5).a, .int .u64 (z 5).b, .int .u64 (z 5).c, .int .u64 (z 5).e, .int .u64 (z 6).a, .int .u64 (z 6).b, .int .u64 (z 6).c, .int .u64 (z 6).e, .int .u64 (z 7).a, .int .u64 (z 7).b, .int .u64 (z 7).c, .int .u64 (z 7).e] 83)) m g dr) (fun i _ => l.length - (intOf i).toNat)
  case atStart =>
    obtain ⟨m, g, dr, hm, e⟩ := pad_of (Below.refl _ (w.alloc (.cells #[.int .u64 0, .int .u64 0, .int .u64 0, .int .u64 0, .int .u64 0, .int .u64 0, .int .u64 0, .int .u64 0, .int .u64 0, .int .u64 0, .int .u64 0, .int .u64 0, .int .u64 0, .int .u64 0, .int .u64 0, .int .u64 0, .int .u64 0, .int .u64 0, .int .u64 0, .int .u64 0, .int .u64 0, .int .u64 0, .int .u64 0, .int .u64 0, .int .u64 0, .int .u64 0, .int .u64 0, .int .u64 0, .int .u64 0, .int .u64 0, .int .u64 0, .int .u64 0] 83)))
    refine ⟨0, m, g, dr, zeroP, Nat.zero_le _, rfl, rfl, by simpa using hm, ?_⟩
    simp only [zeroP_a]
    exact e
  case round =>
    obtain ⟨k, m, g, dr, z, hk, rfl, hz, hm, rfl⟩ := hrel
    have st := sz1 (n := w.heap.size) (m := m) hm
    by_cases hkl : k < l.length
    · obtain ⟨blk, off, rfl, hlt, h0, h1, h2, h3, h4⟩ := hall k l[k] (by simp [hkl])
      obtain ⟨⟨hd0, hd1⟩, hlim⟩ := hwf l[k] (List.getElem_mem hkl)
      have htk : Hid (ofM (l.take (k + 1)) = putP (ofM (l.take k)) (l[k].d % 8).toNat (capC l[k])) := by
        unfold Hid; rw [List.take_succ_eq_append_getElem hkl, ofM_snoc]
      have hlm : blk < m := by omega
      have hgn : ¬ blk = w.heap.size := by omega
      have hgl : blk < w.heap.size + 1 := by omega
      generalize l[k] = x at *
      have hem : x.e.tmod 288230376151711744 = x.e % 288230376151711744 := Int.tmod_eq_emod_of_nonneg hlim.2.2.2.1
      obtain ⟨j, hj⟩ : ∃ j : Nat, Hid (x.d % 8 = j) := ⟨(x.d % 8).toNat, by unfold Hid; omega⟩
      have hj8 : j < 8 := by have := hj.out; omega
      have hjm : x.d.tmod 8 = (j : Int) := by rw [Int.tmod_eq_emod_of_nonneg hd0, hj.out]
      obtain ⟨kk, hkk⟩ : ∃ kk : Nat, Hid (kk = k + 1) := ⟨_, rfl⟩
      have hn : Hid (∀ z', z' = putP z j (capC x) → z' = ofM (l.take kk)) := by
        intro z' e'; rw [e', hkk.out, htk.out, hz.out, hj.out]; rfl
      clear htk hall hwf
      rcases (show j = 0 ∨ j = 1 ∨ j = 2 ∨ j = 3 ∨ j = 4 ∨ j = 5 ∨ j = 6 ∨ j = 7 by omega) with rfl | rfl | rfl | rfl | rfl | rfl | rfl | rfl
      all_goals
        clear hj8 hj
        go_wp2
        go_region
        all_goals go_wp2
        all_goals go_roundw
        case rel =>
          have e := hkk.out
          refine ⟨kk, m, g, dr + 1, _, by omega, by rw [e]; go_num, hn.out _ rfl, hm, ?_⟩
          simp [putP, capC]
        case measure => (simp [intOf] <;> omega)
    · have hk' : k = l.length := by omega
      subst hk'
      rw [List.take_length] at hz
      have hp : Purse z := by rw [hz.out]; exact (ofM_small (fun x hx => (hwf x hx).2)).purse
      have hL : Hid (∀ X, _) := fun X => listR_gives z hp X
      have hmk : Hid (mkL l = if lst z 8 = [] then [⟨0, 1, 0, 0, 0⟩] else lst z 8) := by unfold Hid mkL; rw [← hz.out]
      clear hz hp hwf hall
      go_upto_region 6 with fail
      go_cut [5] from 45 to 46 (fun s5 wx => ∃ (a' : Option Addr) (n c : Nat), s5 = .slice a' n c ∧ Hid (n = (lst z 8).length) ∧ Hid (IsCoins wx (.slice a' n c) (lst z 8)) ∧ Hid (∀ g, (Value.slice a' n c).ownBlock = some g → w.heap.size ≤ g ∧ g < wx.heap.size) ∧ Below w.heap.size w wx)
      case first =>
        go_wp2_with (first | (refine wpList_load_row rfl 83 _ rfl w.heap.size rfl 83 #[.int .u64 (z 0).a, .int .u64 (z 0).b, .int .u64 (z 0).c, .int .u64 (z 0).e, .int .u64 (z 1).a, .int .u64 (z 1).b, .int .u64 (z 1).c, .int .u64 (z 1).e, .int .u64 (z 2).a, .int .u64 (z 2).b, .int .u64 (z 2).c, .int .u64 (z 2).e, .int .u64 (z 3).a, .int .u64 (z 3).b, .int .u64 (z 3).c, .int .u64 (z 3).e, .int .u64 (z 4).a, .int .u64 (z 4).b, .int .u64 (z 4).c, .int .u64 (z 4).e, .int .u64 (z 5).a, .int .u64 (z 5).b, .int .u64 (z 5).c, .int .u64 (z 5).e, .int .u64 (z 6).a, .int .u64 (z 6).b, .int .u64 (z 6).c, .int .u64 (z 6).e, .int .u64 (z 7).a, .int .u64 (z 7).b, .int .u64 (z 7).c, .int .u64 (z 7).e] (0, 0) _ (by (repeat (first | (with_reducible exact al_at (by simp [pad_size])) | (with_reducible refine Eq.trans (dr_blk _ _) ?_) | (with_reducible refine Eq.trans (al_old (by first | omega | (simp [pad_size]; done) | (simp [pad_size]; omega))) ?_) | (with_reducible refine Eq.trans (pad_block (by first | omega | (simp [pad_size]; done) | (simp [pad_size]; omega)) (by first | omega | (simp [pad_size]; done) | (simp [pad_size]; omega))) ?_) | (with_reducible assumption)))) Try.underlying83 rfl (by kernel_rfl) ?_) | (go_at_call 53; refine (hL.out _).mono ?_; rintro e w1 ⟨av, n, cv, rfl, hn, hI, hfr, hb⟩; replace hn : Hid (n = (lst z 8).length) := hn; replace hI : Hid (IsCoins w1 (.slice av n cv) (lst z 8)) := hI; replace hfr : Hid _ := hfr))
        go_meet
        refine ⟨_, _, _, rfl, hn, hI, fun g hg => ?_, bt (by (repeat (first | (with_reducible exact Below.refl _ _) | (with_reducible assumption) | (with_reducible apply bd) | (with_reducible apply ba) | (with_reducible refine bp ?_ (by first | omega | (simp [pad_size]; done) | (simp [pad_size]; omega)) _ _) | (with_reducible refine bs ?_ (by first | omega | (simp [pad_size]; done) | (simp [pad_size]; omega)) _) | (with_reducible refine bt ?_ (by assumption))))) hb⟩
        have h1 := hfr.out g hg
        simp [pad_size] at h1
        omega
      case rest =>
        obtain ⟨av, n, cv, rfl, hn, hI, hfr, hb0⟩ := hcut
        by_cases hn0 : n = 0
        · subst hn0
          have hq : lst z 8 = [] := List.eq_nil_of_length_eq_zero hn.out.symm
          rw [if_pos hq] at hmk
          clear hn hI hfr hq
          go_wp2
          go_ret
          refine ⟨_, rfl, ?_, ?_, ba hb0 _⟩
          · rw [hmk.out]
            exact block_coins (l := [⟨0, 1, 0, 0, 0⟩]) (al_at rfl) rfl (by simp) (by simp)
          · intro g hg
            injection hg with hg
            subst hg
            have := hb0.size
            simp; omega
        · have hq : ¬ lst z 8 = [] := fun e => hn0 (by rw [hn.out, e]; rfl)
          rw [if_neg hq] at hmk
          have hn1 : ((n : Int) == 0) = false := beq_eq_false_iff_ne.2 (by omega)
          have hn2 : ¬ (n : Int) = 0 := by omega
          clear hn hq hn0
          go_wp2
          go_ret
          exact ⟨_, rfl, by rw [hmk.out]; exact hI.out, hfr.out, hb0⟩
theorem cn_ats {W : World} {a : Option Addr} {n c : Nat} {l : List Cn} (h : IsCoins W (.slice a n c) l) : ∀ i x, l[i]? = some x → ∃ blk off, a = some ⟨blk, off, none⟩ ∧ blk < W.heap.size ∧ CnAt W blk (off + i * 5) x := by
  rcases h with ⟨rfl, -⟩ | ⟨blk, off, cap, ev, hne, _, hbl, hall⟩
  · intro i x hi; simp at hi
  · simp at ev
    obtain ⟨rfl, rfl, rfl⟩ := ev
    exact fun i x hi => ⟨blk, off, rfl, hbl, hall i x hi⟩
theorem of6_any {v : Value} {l : List Cn} (w : World) (h : IsCoins w v l) (hwf : ∀ x ∈ l, CnWf x) :
    Calls Try.prog 46 #[v] w fun e w' => ∃ v, e = .returned v ∧ IsCoins w' v (mkL l) ∧ (∀ g, v.ownBlock = some g → w.heap.size ≤ g ∧ g < w'.heap.size) ∧ Below w.heap.size w w' := by
  have hlen : l.length ≤ 1048576 := by
    rcases h with ⟨rfl, -⟩ | ⟨_, _, _, _, _, h, _⟩
    · simp
    · exact h
  rcases h with ⟨rfl, a, cap, rfl⟩ | ⟨blk, off, cap, rfl, h1, h2, h3, h4⟩
  · exact of6_some a cap [] w (by simp) (fun i x hi => by simp at hi) (fun x hx => by simp at hx)
  · exact of6_some _ cap l w hlen (cn_ats (.inr ⟨blk, off, cap, rfl, h1, h2, h3, h4⟩)) hwf
theorem SmallP.vl {z : Nat → Cn} (h : SmallP z) {d : Nat} (hd : d < 8) : vl (z d) < 1809251394333065553493296640760748560207343510400633813116524750123642650624 := by
  obtain ⟨h1, -, h3⟩ := h d hd
  unfold LimC Lim at h1
  unfold Go.Proofs.Ytmfnfnegnfpkiaa.vl val
  omega
/-- What law06.of makes may be, is something, and no great numbers. -/
theorem mkL_facts {l : List Cn} (h : ∀ x ∈ l, LimC x) : (∀ x ∈ mkL l, CnWf x) ∧ someB (mkL l) = true ∧ ∀ d : Nat, d < 8 → vl (amt (mkL l) d) < 1809251394333065553493296640760748560207343510400633813116524750123642650624 := by
  have hs := ofM_small h
  unfold mkL
  by_cases hq : lst (ofM l) 8 = []
  · rw [if_pos hq]
    refine ⟨fun x hx => ?_, rfl, fun d hd => ?_⟩
    · rw [List.mem_singleton] at hx; subst hx; exact ⟨by simp, by unfold Lim; simp⟩
    · by_cases e : d = 0
      · subst e; show val 1 0 0 0 < _; rw [val_of]; omega
      · have e2 : amt [⟨0, 1, 0, 0, 0⟩] (d : Int) = ⟨d, 0, 0, 0, 0⟩ := by
          rw [amt_cons_ne (by show ¬ (0 : Int) = (d : Int); omega)]; rfl
        rw [e2]; show val 0 0 0 0 < _; rw [val0]; omega
  · rw [if_neg hq]
    refine ⟨lst_wf hs.purse, ?_, fun d hd => ?_⟩
    · unfold someB
      have h1 := right_eq (lst_right hs.purse 8 (Nat.le_refl _)) (lst_wf hs.purse)
      cases e : lst (ofM l) 8 with
      | nil => exact absurd e hq
      | cons a b => rw [e] at h1; rw [h1]; rfl
    · rw [amt_full hs.purse hd]; exact hs.vl hd
end Go.Proofs.Ytmfnfnegnfpkiaa

/- plan: what periods have together, how many are over, may a plan be: plain facts. -/
namespace Go.Proofs.Ytmfnfnegnfpkiaa
open Go.RowKit

/-- A list as so much of each denomination. -/
def amP (l : List Cn) : Nat → Cn := fun d => amt l d
theorem amP_lst {l : List Cn} (h : rightFrom 0 l = true) : lst (amP l) 8 = l := right_lst h
theorem amP_purse {l : List Cn} (h : ∀ x ∈ l, CnWf x) : Purse (amP l) := purse_amt h
/-- What periods have together of a denomination. -/
def tot : List Pd → Nat → Int
  | [], _ => 0
  | q :: l, d => vl (amP q.l d) + tot l d
def sumP (l : List Pd) : Nat → Cn := fun d => cnOf d (tot l d)
structure PdWf (x : Pd) : Prop where
  n : 0 ≤ x.n ∧ x.n < 18446744073709551616
  l : ∀ y ∈ x.l, CnWf y
theorem tot_app : ∀ (l m : List Pd) (d : Nat), tot (l ++ m) d = tot l d + tot m d
  | [], m, d => by simp [tot]
  | q :: l, m, d => by simp only [List.cons_append, tot]; rw [tot_app l m d]; omega
theorem tot_snoc (l : List Pd) (q : Pd) (d : Nat) : tot (l ++ [q]) d = tot l d + vl (amP q.l d) := by rw [tot_app]; simp [tot]
theorem tot_lo : ∀ {l : List Pd} (_ : ∀ q ∈ l, PdWf q) {d : Nat} (_ : d < 8), 0 ≤ tot l d
  | [], _, _, _ => by simp [tot]
  | q :: l, h, d, hd => by
    have h1 := tot_lo (l := l) (fun x hx => h x (by simp [hx])) hd
    have h2 := vl_lo (amP_purse (h q (by simp)).l) hd
    simp only [tot]; omega
theorem tot_take {l : List Pd} (h : ∀ q ∈ l, PdWf q) (i : Nat) {d : Nat} (hd : d < 8) : 0 ≤ tot (l.take i) d ∧ tot (l.take i) d ≤ tot l d := by
  have h1 : tot l d = tot (l.take i) d + tot (l.drop i) d := by rw [← tot_app, List.take_append_drop]
  have h2 := tot_lo (l := l.take i) (fun q hq => h q (List.mem_of_mem_take hq)) hd
  have h3 := tot_lo (l := l.drop i) (fun q hq => h q (List.mem_of_mem_drop hq)) hd
  omega
theorem sumP_purse {l : List Pd} (h : ∀ q ∈ l, PdWf q) (hf : ∀ d, d < 8 → tot l d < 115792089237316195423570985008687907853269984665640564039457584007913129639936) : Purse (sumP l) := fun d hd => ⟨cnOf_lim (tot_lo h hd) (hf d hd), rfl⟩
theorem sumP_vl (l : List Pd) (d : Nat) : vl (sumP l d) = tot l d := cnOf_vl
theorem sumP_nil : lst (sumP []) 8 = [] := by
  rw [lst_congr (y := zeroP) 8 (fun d _ => ?_), lst_zero]
  simp [sumP, tot, cnOf, zeroP]
theorem sumP_snoc (l : List Pd) (q : Pd) : opP (· + ·) (sumP l) (amP q.l) = sumP (l ++ [q]) := by
  funext d
  simp only [opP, sumP_vl]
  unfold sumP
  rw [tot_snoc]
/-- How long periods are together. -/
def lenS : List Pd → Int
  | [] => 0
  | q :: l => q.n + lenS l
theorem lenS_app : ∀ (l m : List Pd), lenS (l ++ m) = lenS l + lenS m
  | [], m => by simp [lenS]
  | q :: l, m => by simp only [List.cons_append, lenS]; rw [lenS_app l m]; omega
theorem lenS_snoc (l : List Pd) (q : Pd) : lenS (l ++ [q]) = lenS l + q.n := by rw [lenS_app]; simp [lenS]
theorem lenS_lo : ∀ {l : List Pd} (_ : ∀ q ∈ l, PdWf q), 0 ≤ lenS l
  | [], _ => by simp [lenS]
  | q :: l, h => by
    have h1 := lenS_lo (l := l) (fun x hx => h x (by simp [hx]))
    have h2 := (h q (by simp)).n
    simp only [lenS]; omega
theorem lenS_take {l : List Pd} (h : ∀ q ∈ l, PdWf q) (i : Nat) : 0 ≤ lenS (l.take i) ∧ lenS (l.take i) ≤ lenS l := by
  have h1 : lenS l = lenS (l.take i) + lenS (l.drop i) := by rw [← lenS_app, List.take_append_drop]
  have h2 := lenS_lo (l := l.take i) (fun q hq => h q (List.mem_of_mem_take hq))
  have h3 := lenS_lo (l := l.drop i) (fun q hq => h q (List.mem_of_mem_drop hq))
  omega
/-- How many periods from e on are over at t, and when the last one was. -/
def ovN : List Pd → Int → Int → Nat × Int
  | [], e, _ => (0, e)
  | q :: l, e, t => if t < e ∨ t - e < q.n then (0, e) else ((ovN l (e + q.n) t).1 + 1, (ovN l (e + q.n) t).2)
theorem ovN_le : ∀ (l : List Pd) (e t : Int), (ovN l e t).1 ≤ l.length
  | [], _, _ => by simp [ovN]
  | q :: l, e, t => by
    unfold ovN
    split
    · simp
    · have := ovN_le l (e + q.n) t; simp only [List.length_cons]; omega
theorem ovN_end : ∀ (l : List Pd) (e t : Int), (ovN l e t).2 = e + lenS (l.take (ovN l e t).1)
  | [], _, _ => by simp [ovN, lenS]
  | q :: l, e, t => by
    unfold ovN
    split
    · simp [lenS]
    · have := ovN_end l (e + q.n) t
      simp only [List.take_succ_cons, lenS]; omega
theorem ovN_t : ∀ (l : List Pd) (e t : Int), e ≤ t → (ovN l e t).2 ≤ t
  | [], _, _, h => by simpa [ovN] using h
  | q :: l, e, t, h => by
    unfold ovN
    split
    · exact h
    · exact ovN_t l _ t (by omega)
theorem ovN_all : ∀ {l : List Pd} {e t : Int}, (∀ q ∈ l, PdWf q) → e + lenS l ≤ t → (ovN l e t).1 = l.length
  | [], _, _, _, _ => by simp [ovN]
  | q :: l, e, t, h, ht => by
    have hl := lenS_lo (l := l) (fun x hx => h x (by simp [hx]))
    have hq := (h q (by simp)).n
    simp only [lenS] at ht
    unfold ovN
    rw [if_neg (by omega)]
    simp only [List.length_cons]
    rw [ovN_all (fun x hx => h x (by simp [hx])) (by omega)]
theorem ovN_full {l : List Pd} {e t : Int} (h : ∀ q ∈ l, PdWf q) : (decide ((ovN l e t).1 = l.length) && decide ((ovN l e t).2 = t)) = decide (e + lenS l = t) := by
  by_cases ht : e + lenS l = t
  · have h1 := ovN_all h (show e + lenS l ≤ t by omega)
    have h2 := ovN_end l e t
    rw [h1, List.take_length] at h2
    rw [decide_eq_true h1, decide_eq_true (by omega : (ovN l e t).2 = t), decide_eq_true ht]; rfl
  · rw [decide_eq_false ht]
    by_cases h1 : (ovN l e t).1 = l.length
    · have h2 := ovN_end l e t
      rw [h1, List.take_length] at h2
      rw [decide_eq_false (by omega : ¬ (ovN l e t).2 = t), Bool.and_false]
    · rw [decide_eq_false h1, Bool.false_and]
/-- Are a period's length and coins such as may be? -/
def pdR (q : Pd) : Bool := decide (1 ≤ q.n) && someB q.l
/-- Are the first eight numbers the same? -/
def all8 (f g : Nat → Int) : Bool := (List.range 8).all fun d => decide (f d = g d)
theorem all8_true {f g : Nat → Int} : all8 f g = true ↔ ∀ d, d < 8 → f d = g d := by simp [all8]
/-- The periods' part of whether a plan may be. -/
def stepsB (x : Pn) : Bool := decide (1 ≤ x.pl.length) && decide (x.pl.length ≤ 16) && x.pl.all pdR && decide (x.s + lenS x.pl = x.e) && all8 (tot x.pl) (fun d => vl (amP x.al d))
/-- May a plan be? -/
def rightB (x : Pn) : Bool := if x.k = 3 ∨ x.k = 5 then givesB x && stepsB x else rightN x
structure PnOk (x : Pn) : Prop where
  w : PnWf x
  p : ∀ q ∈ x.pl, PdWf q
theorem some_right {l : List Cn} (h : someB l = true) : rightFrom 0 l = true := by
  unfold someB at h; exact (Bool.and_eq_true_iff.1 h).2
theorem some_len {l : List Cn} (h : someB l = true) : l.length ≤ 8 := by
  rw [← amP_lst (some_right h)]; exact lst_len _ 8
theorem IsCL.coins {W : World} {v : Value} {l : List Cn} (h : IsCL W v l) (hl : l.length ≤ 1048576) : IsCoins W v l := by
  rcases h with h | ⟨blk, off, cap, hv, hne, -, r⟩
  · exact .inl h
  · exact .inr ⟨blk, off, cap, hv, hne, hl, r⟩
theorem IsCL.lst {W : World} {v : Value} {l : List Cn} (h : IsCL W v l) (hs : rightFrom 0 l = true) : IsCoins W v (lst (amP l) 8) := by
  have hl := amP_lst hs
  rw [hl]
  exact h.coins (by rw [← hl]; have := lst_len (amP l) 8; omega)
theorem allB_eq {z y : Nat → Cn} (hz : Purse z) (hy : Purse y) : allB eqB (lst z 8) (lst y 8) 8 = all8 (fun d => vl (z d)) (fun d => vl (y d)) := by
  by_cases h : ∀ d, d < 8 → vl (z d) = vl (y d)
  · rw [all8_true.2 h]
    exact allB_full hz hy (fun d hd => decide_eq_true (h d hd)) 8 (Nat.le_refl _)
  · rw [Bool.eq_false_iff.2 fun e => h (all8_true.1 e)]
    have h' : ∃ d, d < 8 ∧ vl (z d) ≠ vl (y d) := Classical.byContradiction fun hc => h fun d hd => Classical.byContradiction fun e => hc ⟨d, hd, e⟩
    obtain ⟨d, hd, e⟩ := h'
    exact allB_not hz hy ⟨d, hd, decide_eq_false e⟩
end Go.Proofs.Ytmfnfnegnfpkiaa

/- A plan as it comes in: its kind, times, coins and periods. -/
namespace Go.Proofs.Ytmfnfnegnfpkiaa
open Go.ChangeShapes Go.WideShapes Go.ChangeAt Go.RowKit

def cnV (y : Cn) : List Value := [.int .u8 y.d, .int .u64 y.a, .int .u64 y.b, .int .u64 y.c, .int .u64 y.e]
/-- A period that came in: how long, where its coins are, what they are. -/
structure Pa where
  n : Int
  a : Option Addr
  m : Nat
  cap : Nat
  l : List Cn
def paV (y : Pa) : List Value := [.int .u64 y.n, .slice y.a y.m y.cap]
def Pa.pd (y : Pa) : Pd := ⟨y.n, .slice y.a y.m y.cap, y.l⟩
structure PaIn (w : World) (y : Pa) : Prop where
  n : 0 ≤ y.n ∧ y.n < 18446744073709551616
  len : y.l.length = y.m
  cl : IsCL w (.slice y.a y.m y.cap) y.l
  wf : ∀ x ∈ y.l, CnWf x
/-- A plan that came in. -/
structure PlanIn (w : World) (y : Pn) : Prop where
  wf : PnWf y
  cl : IsCL w y.av y.al
  pv : ∃ a n c, y.pv = .slice a n c ∧ n ≤ 9223372036854775807 ∧ (n ≤ 9223372036854775807 → IsPds w y.pv y.pl ∧ y.pl.length = n ∧ ∀ q ∈ y.pl, PdWf q)
theorem PlanIn.at {w : World} {y : Pn} (h : PlanIn w y) {a : Option Addr} {n c : Nat} (hv : y.pv = .slice a n c) (hn : n ≤ 9223372036854775807) : PnAt w y ∧ PnOk y ∧ y.pl.length = n := by
  obtain ⟨a', n', c', e, -, h2⟩ := h.pv
  rw [hv] at e
  injection e with e1 e2 e3
  subst e2
  obtain ⟨h3, h4, h5⟩ := h2 hn
  exact ⟨⟨h.cl, h3⟩, ⟨h.wf, h5⟩, h4⟩
section
variable {H : Type} {enc : TypeId × Value → H} {w : World} {base : Nat} {spare : Nat → Bool} {held : Bool} {fuel : Nat} {cs : List Value} {x : DataW H × List MemPlace}
theorem Try.cellsPlan : Try.prog.cellsOf 26 = 5 := by kernel_rfl
theorem Try.cellsPeriod : Try.prog.cellsOf 73 = 2 := by kernel_rfl
theorem Try.cellsCs6 : Try.prog.cellsOf 23 = 1 := by kernel_rfl
theorem Try.cellsPs6 : Try.prog.cellsOf 24 = 1 := by kernel_rfl
theorem Try.cellsLong6 : Try.prog.cellsOf 22 = 1 := by kernel_rfl
theorem coins_openL {a : Option Addr} {len cap : Nat} (h : DataW.trod enc Try.prog w base spare held fuel 23 [.slice a len cap] = some x) (hlen : len ≤ 9223372036854775807) :
    ∃ l : List Cn, IsCL w (.slice a len cap) l ∧ l.length = len ∧ ∀ y ∈ l, CnWf y := by
  obtain ⟨l, h1, h2, h3⟩ := @open_list H enc w base spare held fuel x Cn ⟨⟨0, 0, 0, 0, 0⟩⟩ 23 71 5 (by omega) Try.underlying23 Try.cellsCoin cnV CnWf (fun m cs x h => by obtain ⟨y, e, hy⟩ := coin_of_cells h; exact ⟨y, e, rfl, hy⟩) a len cap h
  refine ⟨l, ?_, h1, h2⟩
  rcases h3 with h3 | ⟨blk, off, rfl, hb, hc⟩
  · subst h3
    exact .inl ⟨List.eq_nil_of_length_eq_zero h1, a, cap, rfl⟩
  · by_cases hl : l = []
    · subst hl; simp at h1; subst h1; exact .inl ⟨rfl, _, _, rfl⟩
    · exact .inr ⟨blk, off, cap, by rw [h1], hl, by omega, hb, fun i y hi => ⟨hc i y hi 0 _ rfl, hc i y hi 1 _ rfl, hc i y hi 2 _ rfl, hc i y hi 3 _ rfl, hc i y hi 4 _ rfl⟩⟩
theorem pa_of_cells (h : DataW.trod enc Try.prog w base spare held fuel 73 cs = some x) : ∃ y : Pa, cs = paV y ∧ (paV y).length = 2 ∧ PaIn w y := by
  obtain ⟨xs, m, -, -, hl, hx, hi⟩ := DataW.trod_struct Try.underlying73 h
  rw [Try.cellsPeriod] at hl
  have f0 : DataW.trod enc Try.prog w base spare held m 22 ((cs.drop 0).take (Try.prog.cellsOf 22)) = xs[0]? := hi 0 _ rfl
  have f1 : DataW.trod enc Try.prog w base spare held m 23 ((cs.drop 1).take (Try.prog.cellsOf 23)) = xs[1]? := hi 1 _ rfl
  rw [Try.cellsLong6] at f0
  rw [Try.cellsCs6] at f1
  match cs, hl with
  | [c0, c1], _ =>
    have hx2 : xs.length = 2 := hx
    have g0 := f0.trans (List.getElem?_eq_getElem (by omega))
    have g1 := f1.trans (List.getElem?_eq_getElem (by omega))
    obtain ⟨d, ed, -, wd⟩ := DataW.trod_int Try.underlying22 g0
    obtain ⟨a, n, cap, ea, hn⟩ := slice_form Try.underlying23 g1
    simp at ed ea
    subst ed ea
    obtain ⟨l, h1, h2, h3⟩ := coins_openL g1 hn
    exact ⟨⟨d, a, n, cap, l⟩, rfl, rfl, by have := bounds_u64 wd; show 0 ≤ d ∧ d < _; omega, h2, h1, h3⟩
theorem periods_open {a : Option Addr} {len cap : Nat} (h : DataW.trod enc Try.prog w base spare held fuel 24 [.slice a len cap] = some x) :
    ∃ l : List Pd, len ≤ 9223372036854775807 → IsPds w (.slice a len cap) l ∧ l.length = len ∧ ∀ q ∈ l, PdWf q := by
  obtain ⟨l, h1, h2, h3⟩ := @open_list H enc w base spare held fuel x Pa ⟨⟨0, none, 0, 0, []⟩⟩ 24 73 2 (by omega) Try.underlying24 Try.cellsPeriod paV (PaIn w) (fun m cs x h => pa_of_cells h) a len cap h
  refine ⟨l.map Pa.pd, fun hl => ⟨?_, by simpa using h1, ?_⟩⟩
  · rcases h3 with h3 | ⟨blk, off, rfl, hb, hc⟩
    · subst h3
      obtain rfl := List.eq_nil_of_length_eq_zero h1
      exact .inl ⟨rfl, a, cap, rfl⟩
    · by_cases hn : l = []
      · subst hn; simp at h1; subst h1; exact .inl ⟨rfl, _, _, rfl⟩
      · refine .inr ⟨blk, off, cap, by simp [h1], by simpa using hn, by simpa [h1] using hl, hb, fun i q hi => ?_⟩
        rw [List.getElem?_map] at hi
        obtain ⟨y, hy, rfl⟩ := Option.map_eq_some_iff.1 hi
        exact ⟨hc i y hy 0 _ rfl, hc i y hy 1 _ rfl, (h2 y (List.mem_of_getElem? hy)).cl⟩
  · intro q hq
    obtain ⟨y, hy, rfl⟩ := List.mem_map.1 hq
    exact ⟨(h2 y hy).n, (h2 y hy).wf⟩
theorem plan_of_cells (h : DataW.trod enc Try.prog w base spare held fuel 26 cs = some x) : ∃ y : Pn, cs = [.int .u8 y.k, .int .u64 y.s, .int .u64 y.e, y.av, y.pv] ∧ PlanIn w y := by
  obtain ⟨xs, m, -, -, hl, hx, hi⟩ := DataW.trod_struct Try.underlying26 h
  rw [Try.cellsPlan] at hl
  have f0 : DataW.trod enc Try.prog w base spare held m 5 ((cs.drop 0).take (Try.prog.cellsOf 5)) = xs[0]? := hi 0 _ rfl
  have f1 : DataW.trod enc Try.prog w base spare held m 22 ((cs.drop 1).take (Try.prog.cellsOf 22)) = xs[1]? := hi 1 _ rfl
  have f2 : DataW.trod enc Try.prog w base spare held m 22 ((cs.drop 2).take (Try.prog.cellsOf 22)) = xs[2]? := hi 2 _ rfl
  have f3 : DataW.trod enc Try.prog w base spare held m 23 ((cs.drop 3).take (Try.prog.cellsOf 23)) = xs[3]? := hi 3 _ rfl
  have f4 : DataW.trod enc Try.prog w base spare held m 24 ((cs.drop 4).take (Try.prog.cellsOf 24)) = xs[4]? := hi 4 _ rfl
  rw [Try.cellsU8] at f0
  rw [Try.cellsLong6] at f1 f2
  rw [Try.cellsCs6] at f3
  rw [Try.cellsPs6] at f4
  match cs, hl with
  | [c0, c1, c2, c3, c4], _ =>
    have hx2 : xs.length = 5 := hx
    obtain ⟨k, ek, -, wk⟩ := DataW.trod_int Try.underlying5 (f0.trans (List.getElem?_eq_getElem (by omega)))
    obtain ⟨s, es, -, ws⟩ := DataW.trod_int Try.underlying22 (f1.trans (List.getElem?_eq_getElem (by omega)))
    obtain ⟨t, et, -, wt⟩ := DataW.trod_int Try.underlying22 (f2.trans (List.getElem?_eq_getElem (by omega)))
    have g3 := f3.trans (List.getElem?_eq_getElem (by omega))
    have g4 := f4.trans (List.getElem?_eq_getElem (by omega))
    obtain ⟨a, n, cap, ea, hn⟩ := slice_form Try.underlying23 g3
    obtain ⟨a', n', cap', ea', hn'⟩ := slice_form Try.underlying24 g4
    simp at ek es et ea ea'
    subst ek es et ea ea'
    obtain ⟨l, h1, h2, h3⟩ := coins_openL g3 hn
    obtain ⟨pl, hp⟩ := periods_open g4
    exact ⟨⟨k, s, t, .slice a n cap, .slice a' n' cap', l, pl⟩, rfl, ⟨wf_u8 wk, by have := bounds_u64 ws; show 0 ≤ s ∧ s < _; omega, by have := bounds_u64 wt; show 0 ≤ t ∧ t < _; omega, h3⟩, h1, a', n', cap', rfl, hn', hp⟩
theorem okWide_plan {W : World} {b : Nat} {r : Reach} {v : Value} (h : Value.okWide Try.prog W r b 26 v) : ∃ cs, v = .agg cs := by
  unfold Value.okWide at h
  rw [Try.underlying26] at h
  obtain ⟨cs, e, -⟩ := h
  exact ⟨cs, e⟩
theorem plan_in {W : World} {b : Nat} {r : Reach} {v : Value} (hv : Value.okWide Try.prog W r b 26 v) (h : ∃ fuel, DataW.trod enc Try.prog w base spare held fuel 26 v.cells.toList = some x) :
    ∃ y : Pn, v = pnV y ∧ PlanIn w y := by
  obtain ⟨cs, rfl⟩ := okWide_plan hv
  obtain ⟨fuel, h⟩ := h
  obtain ⟨y, e, hl⟩ := plan_of_cells h
  refine ⟨y, ?_, hl⟩
  cases cs
  simp [Value.cells] at e
  rw [e]
  rfl
end
end Go.Proofs.Ytmfnfnegnfpkiaa

/- What plans are made of, as it comes in; few. -/
namespace Go.Proofs.Ytmfnfnegnfpkiaa
open Go.ChangeShapes Go.WideShapes Go.ChangeAt Go.RowKit

def pcV (y : Pa) : List Value := [.int .u16 y.n, .slice y.a y.m y.cap]
/-- A piece that came in. -/
structure PcIn (w : World) (y : Pa) : Prop where
  n : 0 ≤ y.n ∧ y.n ≤ 65535
  len : y.l.length = y.m
  cl : IsCL w (.slice y.a y.m y.cap) y.l
  wf : ∀ x ∈ y.l, CnWf x
/-- What a plan is made of: its kind, start and length, coins, pieces. -/
structure Md where
  k : Int
  s : Int
  n : Int
  a1 : Option Addr
  n1 : Nat
  c1 : Nat
  a2 : Option Addr
  n2 : Nat
  c2 : Nat
  l : List Cn
  ps : List Pa
def mdC (y : Md) : List Value := [.int .u8 y.k, .int .u32 y.s, .int .u16 y.n, .slice y.a1 y.n1 y.c1, .slice y.a2 y.n2 y.c2]
def mdV (y : Md) : Value := .agg #[.int .u8 y.k, .int .u32 y.s, .int .u16 y.n, .slice y.a1 y.n1 y.c1, .slice y.a2 y.n2 y.c2]
structure MdIn (w : World) (y : Md) : Prop where
  k : 0 ≤ y.k ∧ y.k ≤ 255
  s : 0 ≤ y.s ∧ y.s ≤ 4294967295
  n : 0 ≤ y.n ∧ y.n ≤ 65535
  n1 : y.n1 ≤ 9223372036854775807
  n2 : y.n2 ≤ 9223372036854775807
  len : y.l.length = y.n1
  cl : IsCL w (.slice y.a1 y.n1 y.c1) y.l
  wf : ∀ x ∈ y.l, CnWf x
  num : y.ps.length = y.n2
  ok : ∀ q ∈ y.ps, PcIn w q
  cell : y.n2 = 0 ∨ ∃ blk off, y.a2 = some ⟨blk, off, none⟩ ∧ blk < w.heap.size ∧ ∀ i q, y.ps[i]? = some q → ∀ j v, (pcV q)[j]? = some v → w.cell? ⟨blk, off + i * 2 + j, none⟩ = some v
section
variable {H : Type} {enc : TypeId × Value → H} {w : World} {base : Nat} {spare : Nat → Bool} {held : Bool} {fuel : Nat} {cs : List Value} {x : DataW H × List MemPlace}
theorem Try.cellsMade : Try.prog.cellsOf 33 = 5 := by kernel_rfl
theorem Try.cellsPiece : Try.prog.cellsOf 75 = 2 := by kernel_rfl
theorem Try.cellsPcs : Try.prog.cellsOf 31 = 1 := by kernel_rfl
theorem Try.cellsU16m : Try.prog.cellsOf 30 = 1 := by kernel_rfl
theorem Try.cellsU32m : Try.prog.cellsOf 29 = 1 := by kernel_rfl
theorem wf_u16 {n : Int} (h : (Lit.int .u16 n).wf = true) : 0 ≤ n ∧ n ≤ 65535 := by
  have := bounds_u16 h; omega
theorem wf_u32 {n : Int} (h : (Lit.int .u32 n).wf = true) : 0 ≤ n ∧ n ≤ 4294967295 := by
  have := bounds_u32 h; omega
theorem pc_of_cells (h : DataW.trod enc Try.prog w base spare held fuel 75 cs = some x) : ∃ y : Pa, cs = pcV y ∧ (pcV y).length = 2 ∧ PcIn w y := by
  obtain ⟨xs, m, -, -, hl, hx, hi⟩ := DataW.trod_struct Try.underlying75 h
  rw [Try.cellsPiece] at hl
  have f0 : DataW.trod enc Try.prog w base spare held m 30 ((cs.drop 0).take (Try.prog.cellsOf 30)) = xs[0]? := hi 0 _ rfl
  have f1 : DataW.trod enc Try.prog w base spare held m 23 ((cs.drop 1).take (Try.prog.cellsOf 23)) = xs[1]? := hi 1 _ rfl
  rw [Try.cellsU16m] at f0
  rw [Try.cellsCs6] at f1
  match cs, hl with
  | [c0, c1], _ =>
    have hx2 : xs.length = 2 := hx
    have g0 := f0.trans (List.getElem?_eq_getElem (by omega))
    have g1 := f1.trans (List.getElem?_eq_getElem (by omega))
    obtain ⟨d, ed, -, wd⟩ := DataW.trod_int Try.underlying30 g0
    obtain ⟨a, n, cap, ea, hn⟩ := slice_form Try.underlying23 g1
    simp at ed ea
    subst ed ea
    obtain ⟨l, h1, h2, h3⟩ := coins_openL g1 hn
    exact ⟨⟨d, a, n, cap, l⟩, rfl, rfl, wf_u16 wd, h2, h1, h3⟩
theorem made_of_cells (h : DataW.trod enc Try.prog w base spare held fuel 33 cs = some x) : ∃ y : Md, cs = mdC y ∧ MdIn w y := by
  obtain ⟨xs, m, -, -, hl, hx, hi⟩ := DataW.trod_struct Try.underlying33 h
  rw [Try.cellsMade] at hl
  have f0 : DataW.trod enc Try.prog w base spare held m 5 ((cs.drop 0).take (Try.prog.cellsOf 5)) = xs[0]? := hi 0 _ rfl
  have f1 : DataW.trod enc Try.prog w base spare held m 29 ((cs.drop 1).take (Try.prog.cellsOf 29)) = xs[1]? := hi 1 _ rfl
  have f2 : DataW.trod enc Try.prog w base spare held m 30 ((cs.drop 2).take (Try.prog.cellsOf 30)) = xs[2]? := hi 2 _ rfl
  have f3 : DataW.trod enc Try.prog w base spare held m 23 ((cs.drop 3).take (Try.prog.cellsOf 23)) = xs[3]? := hi 3 _ rfl
  have f4 : DataW.trod enc Try.prog w base spare held m 31 ((cs.drop 4).take (Try.prog.cellsOf 31)) = xs[4]? := hi 4 _ rfl
  rw [Try.cellsU8] at f0
  rw [Try.cellsU32m] at f1
  rw [Try.cellsU16m] at f2
  rw [Try.cellsCs6] at f3
  rw [Try.cellsPcs] at f4
  match cs, hl with
  | [c0, c1, c2, c3, c4], _ =>
    have hx2 : xs.length = 5 := hx
    obtain ⟨k, ek, -, wk⟩ := DataW.trod_int Try.underlying5 (f0.trans (List.getElem?_eq_getElem (by omega)))
    obtain ⟨s, es, -, ws⟩ := DataW.trod_int Try.underlying29 (f1.trans (List.getElem?_eq_getElem (by omega)))
    obtain ⟨t, et, -, wt⟩ := DataW.trod_int Try.underlying30 (f2.trans (List.getElem?_eq_getElem (by omega)))
    have g3 := f3.trans (List.getElem?_eq_getElem (by omega))
    have g4 := f4.trans (List.getElem?_eq_getElem (by omega))
    obtain ⟨a, n, cap, ea, hn⟩ := slice_form Try.underlying23 g3
    obtain ⟨a', n', cap', ea', hn'⟩ := slice_form Try.underlying31 g4
    simp at ek es et ea ea'
    subst ek es et ea ea'
    obtain ⟨l, h1, h2, h3⟩ := coins_openL g3 hn
    obtain ⟨ps, p1, p2, p3⟩ := @open_list H enc w base spare held _ _ Pa ⟨⟨0, none, 0, 0, []⟩⟩ 31 75 2 (by omega) Try.underlying31 Try.cellsPiece pcV (PcIn w) (fun m cs x h => pc_of_cells h) _ _ _ g4
    exact ⟨⟨k, s, t, a, n, cap, a', n', cap', l, ps⟩, rfl, wf_u8 wk, wf_u32 ws, wf_u16 wt, hn, hn', h2, h1, h3, p1, p2, p3⟩
theorem okWide_made {W : World} {b : Nat} {r : Reach} {v : Value} (h : Value.okWide Try.prog W r b 33 v) : ∃ cs, v = .agg cs := by
  unfold Value.okWide at h
  rw [Try.underlying33] at h
  obtain ⟨cs, e, -⟩ := h
  exact ⟨cs, e⟩
theorem made_in {W : World} {b : Nat} {r : Reach} {v : Value} (hv : Value.okWide Try.prog W r b 33 v) (h : ∃ fuel, DataW.trod enc Try.prog w base spare held fuel 33 v.cells.toList = some x) :
    ∃ y : Md, v = mdV y ∧ MdIn w y := by
  obtain ⟨cs, rfl⟩ := okWide_made hv
  obtain ⟨fuel, h⟩ := h
  obtain ⟨y, e, hl⟩ := made_of_cells h
  refine ⟨y, ?_, hl⟩
  cases cs
  simp [Value.cells, mdC] at e
  rw [e]
  rfl
end
/-- A piece's cells. -/
theorem pc_at {w X : World} {y : Md} (h : MdIn w y) (hX : Below w.heap.size w X) {i : Nat} (hi : i < y.ps.length) : ∃ blk off, y.a2 = some ⟨blk, off, none⟩ ∧ blk < w.heap.size ∧ X.cell? ⟨blk, off + i * 2, none⟩ = some (.int .u16 y.ps[i].n) ∧ X.cell? ⟨blk, off + i * 2 + 1, none⟩ = some (.slice y.ps[i].a y.ps[i].m y.ps[i].cap) := by
  have hn := h.num
  obtain ⟨blk, off, ea, hb, hcell⟩ := h.cell.resolve_left (by omega)
  have hg := List.getElem?_eq_getElem hi
  exact ⟨blk, off, ea, hb, (hX.cell (p := ⟨blk, off + i * 2, none⟩) hb).trans (hcell i _ hg 0 _ rfl), (hX.cell (p := ⟨blk, off + i * 2 + 1, none⟩) hb).trans (hcell i _ hg 1 _ rfl)⟩
def fewM (y : Md) : Bool := decide (y.n1 ≤ 20) && decide (y.n2 ≤ 20) && y.ps.all (fun q => decide (q.m ≤ 20))
set_option maxHeartbeats 4000000 in
theorem few6_any {w : World} {y : Md} (h : MdIn w y) (W : World) (hB : Below w.heap.size w W) :
    Calls Try.prog 15 #[mdV y] W fun e w' => e = .returned (.bool (fewM y)) ∧ Below W.heap.size W w' := by
  have hk := fun X hX i hi => @pc_at w X y h hX i hi
  have hk : Hid _ := hk
  have hn1 := h.n1
  have hn2 := h.n2
  have hnum : Hid _ := h.num
  have hms : Hid (∀ q ∈ y.ps, q.m ≤ 9223372036854775807) := fun q hq => by have h1 := (h.ok q hq).len; have h2 := (h.ok q hq).cl.len; omega
  have hf : Hid (fewM y = (decide (y.n1 ≤ 20) && decide (y.n2 ≤ 20) && y.ps.all (fun q => decide (q.m ≤ 20)))) := rfl
  clear h
  obtain ⟨k, s, n, a1, n1, c1, a2, n2, c2, l, ps⟩ := y
  simp only at hk hn1 hn2 hnum hms hf
  generalize hK : fewM ⟨k, s, n, a1, n1, c1, a2, n2, c2, l, ps⟩ = K at *
  clear hK
  show Calls Try.prog 15 #[.agg #[.int .u8 k, .int .u32 s, .int .u16 n, .slice a1 n1 c1, .slice a2 n2 c2]] W _
  have hb0 : Below W.heap.size W (W.alloc (.cells #[.int .u8 k, .int .u32 s, .int .u16 n, .slice a1 n1 c1, .slice a2 n2 c2] 33)) := ba (Below.refl _ _) _
  have hPb : (W.alloc (.cells #[.int .u8 k, .int .u32 s, .int .u16 n, .slice a1 n1 c1, .slice a2 n2 c2] 33)).heap[W.heap.size]? = some (.cells #[.int .u8 k, .int .u32 s, .int .u16 n, .slice a1 n1 c1, .slice a2 n2 c2] 33 (0, 0)) := al_at rfl
  have hPs : (W.alloc (.cells #[.int .u8 k, .int .u32 s, .int .u16 n, .slice a1 n1 c1, .slice a2 n2 c2] 33)).heap.size = W.heap.size + 1 := by simp
  by_cases h1 : 20 < n1
  · have h1' : (20 : Int) < (n1 : Int) := by omega
    have hr : Hid (K = false) := by unfold Hid; rw [hf.out, decide_eq_false (by omega : ¬ n1 ≤ 20)]; simp
    clear hf hk
    go_enter Try.func15, Try.ntmps15
    go_wp2
    go_ret
    rw [hr.out]
    exact ⟨rfl, hb0⟩
  have h1' : ¬ (20 : Int) < (n1 : Int) := by omega
  by_cases h2 : 20 < n2
  · have h2' : (20 : Int) < (n2 : Int) := by omega
    have hr : Hid (K = false) := by unfold Hid; rw [hf.out, decide_eq_false (by omega : ¬ n2 ≤ 20)]; simp
    clear hf hk
    go_enter Try.func15, Try.ntmps15
    go_wp2
    go_ret
    rw [hr.out]
    exact ⟨rfl, hb0⟩
  have h2' : ¬ (20 : Int) < (n2 : Int) := by omega
  rw [decide_eq_true (by omega : n1 ≤ 20), decide_eq_true (by omega : n2 ≤ 20)] at hf
  go_enter Try.func15, Try.ntmps15
  go_wp2
  generalize W.alloc (.cells #[.int .u8 k, .int .u32 s, .int .u16 n, .slice a1 n1 c1, .slice a2 n2 c2] 33) = P at *
  go_loopw [3] (fun iv X => ∃ (i : Nat), i ≤ n2 ∧ iv = .int .i64 (i : Int) ∧ Hid (∀ q ∈ ps.take i, q.m ≤ 20) ∧ Below P.heap.size P X ∧ Below W.heap.size W X) (fun iv _ => n2 - (intOf iv).toNat)
  case atStart => exact ⟨0, by omega, rfl, by unfold Hid; simp, Below.refl _ _, hb0⟩
  case round =>
    obtain ⟨i, hi, rfl, hc, hXP, hX⟩ := hrel
    obtain ⟨cp, fp⟩ := cells_of_block ((hXP.block W.heap.size (by omega)).trans hPb)
    have k4 : wr.cell? ⟨W.heap.size, 4, none⟩ = some (.slice a2 n2 c2) := cp 4
    clear cp fp
    by_cases hlt : i < n2
    · have hlt' : (i : Int) < (n2 : Int) := by omega
      have hip : i < ps.length := by have := hnum.out; omega
      obtain ⟨blk, off, rfl, hbl, d0, d1⟩ := hk.out wr (bt hB hX) i hip
      have hm := hms.out ps[i] (List.getElem_mem hip)
      have htk : Hid (ps.take (i + 1) = ps.take i ++ [ps[i]]) := List.take_succ_eq_append_getElem hip
      have hmem : Hid (ps[i] ∈ ps) := List.getElem_mem hip
      generalize ps[i] = q at *
      by_cases hq : 20 < q.m
      · have hq' : (20 : Int) < (q.m : Int) := by omega
        have hr : Hid (K = false) := by
          unfold Hid; rw [hf.out]
          have : ps.all (fun q => decide (q.m ≤ 20)) = false := by
            rw [Bool.eq_false_iff]; intro e
            have := List.all_eq_true.1 e q hmem.out
            simp at this; omega
          rw [this]; rfl
        clear hf hk hc htk
        go_wp2
        go_ret
        rw [hr.out]
        exact ⟨rfl, hX⟩
      · have hq' : ¬ (20 : Int) < (q.m : Int) := by omega
        have hc2 : Hid (∀ q ∈ ps.take (i + 1), q.m ≤ 20) := by
          intro z hz
          rw [htk.out] at hz
          rcases List.mem_append.1 hz with h | h
          · exact hc.out z h
          · rw [List.mem_singleton] at h; subst h; omega
        clear hf hk hc htk
        go_wp2
        all_goals go_roundw
        case rel => exact ⟨i + 1, by omega, by go_num, hc2, hXP, hX⟩
        case measure => (simp [intOf]; omega)
    · obtain rfl : i = n2 := by omega
      have hr : Hid (K = true) := by
        unfold Hid
        have e := hnum.out
        have := hc.out
        rw [← e, List.take_length] at this
        rw [hf.out]
        simp only [Bool.true_and, List.all_eq_true, decide_eq_true_eq]
        exact this
      clear hf hk hc
      go_wp2
      go_ret
      rw [hr.out]
      exact ⟨rfl, hX⟩
end Go.Proofs.Ytmfnfnegnfpkiaa

/- plan.over and plan.together. -/
namespace Go.Proofs.Ytmfnfnegnfpkiaa
open Go.RowKit

theorem ovN_stop {l : List Pd} {i : Nat} (hi : i < l.length) {e t : Int} (h : t < e ∨ t - e < l[i].n) : ovN (l.drop i) e t = (0, e) := by
  rw [List.drop_eq_getElem_cons hi]; unfold ovN; rw [if_pos h]
theorem ovN_go {l : List Pd} {i : Nat} (hi : i < l.length) {e t : Int} (h : ¬ (t < e ∨ t - e < l[i].n)) : ovN (l.drop i) e t = ((ovN (l.drop (i + 1)) (e + l[i].n) t).1 + 1, (ovN (l.drop (i + 1)) (e + l[i].n) t).2) := by
  rw [List.drop_eq_getElem_cons hi]; conv => lhs; unfold ovN
  rw [if_neg h]
set_option maxRecDepth 20000 in
set_option maxHeartbeats 8000000 in
theorem over_any {x : Pn} {t : Int} (w : World) (h : PnAt w x) (ho : PnOk x) (ht : 0 ≤ t ∧ t < 18446744073709551616) :
    Calls Try.prog 49 #[pnV x, .int .u64 t] w fun e w' => e = .returned (.tuple #[.int .i64 ((ovN x.pl x.s t).1 : Int), .int .u64 (ovN x.pl x.s t).2]) ∧ Below w.heap.size w w' := by
  obtain ⟨k, s, u, av, pv, al, pl⟩ := x
  obtain ⟨-, h2⟩ := h
  obtain ⟨⟨-, hws, -, -⟩, hwp⟩ := ho
  simp only at h2 hws hwp ⊢
  obtain ⟨a2, c2, rfl⟩ := h2.slice
  show Calls Try.prog 49 #[.agg #[.int .u8 k, .int .u64 s, .int .u64 u, av, .slice a2 pl.length c2], .int .u64 t] w _
  have hb0 : Below w.heap.size w (w.alloc (.cells #[.int .u8 k, .int .u64 s, .int .u64 u, av, .slice a2 pl.length c2] 26)) := ba (Below.refl _ _) _
  have hlen := h2.len
  have hlen' : (pl.length : Int) ≤ 9223372036854775807 := by omega
  have hP : Hid (∀ i x, pl[i]? = some x → ∃ blk off, a2 = some ⟨blk, off, none⟩ ∧ blk < w.heap.size ∧ PdAt w blk (off + i * 2) x) := by
    rcases h2 with ⟨rfl, -⟩ | ⟨blk, off, cap, ev, hne, _, hbl, hall⟩
    · intro i x hi; simp at hi
    · simp at ev
      obtain ⟨rfl, rfl⟩ := ev
      exact fun i x hi => ⟨blk, off, rfl, hbl, hall i x hi⟩
  clear h2
  go_enter Try.func49, Try.ntmps49
  go_wp2
  generalize w.alloc (.cells #[.int .u8 k, .int .u64 s, .int .u64 u, av, .slice a2 pl.length c2] 26) = P at *
  go_loopw [4, 5, 13] (fun mv ev iv X => ∃ (i : Nat) (e : Int), i ≤ pl.length ∧ mv = .int .i64 (i : Int) ∧ ev = .int .u64 e ∧ iv = .int .i64 (i : Int) ∧ (0 ≤ e ∧ e < 18446744073709551616) ∧ Hid (ovN pl s t = ((ovN (pl.drop i) e t).1 + i, (ovN (pl.drop i) e t).2)) ∧ Below w.heap.size w X) (fun _ _ iv _ => pl.length - (intOf iv).toNat)
  case atStart => exact ⟨0, s, by omega, rfl, rfl, rfl, hws, by unfold Hid; simp, hb0⟩
  case round =>
    obtain ⟨i, e, hi, rfl, rfl, rfl, he, hc, hX⟩ := hrel
    by_cases hlt : i < pl.length
    · have hlt' : (i : Int) < (pl.length : Int) := by omega
      obtain ⟨blk, off, rfl, hbl, hA⟩ := hP.out i pl[i] (List.getElem?_eq_getElem hlt)
      obtain ⟨d0, d1, hxc⟩ := hA.below hbl hX
      obtain ⟨a1, c1, ev1⟩ := hxc.slice
      rw [ev1] at d1
      have hq := (hwp pl[i] (List.getElem_mem hlt)).n
      by_cases hs1 : t < e
      · have hst := ovN_stop (t := t) (e := e) hlt (.inl hs1)
        rw [hst] at hc
        clear hst
        go_wp2
        go_ret2
        rw [hc.out]
        exact ⟨by simp, by (repeat (first | (with_reducible exact Below.refl _ _) | (with_reducible assumption) | (with_reducible apply bd) | (with_reducible apply ba) | (with_reducible refine bp ?_ (by first | omega | (simp [pad_size]; done) | (simp [pad_size]; omega)) _ _) | (with_reducible refine bs ?_ (by first | omega | (simp [pad_size]; done) | (simp [pad_size]; omega)) _) | (with_reducible refine bt ?_ (by assumption))))⟩
      · by_cases hs2 : t - e < pl[i].n
        · have hst := ovN_stop (t := t) (e := e) hlt (.inr hs2)
          rw [hst] at hc
          have hw1 : IntKind.u64.wrap (t - e) = t - e := by rw [IntKind.wrap_u64]; omega
          clear hst
          go_wp2
          go_ret2
          rw [hc.out]
          exact ⟨by simp, by (repeat (first | (with_reducible exact Below.refl _ _) | (with_reducible assumption) | (with_reducible apply bd) | (with_reducible apply ba) | (with_reducible refine bp ?_ (by first | omega | (simp [pad_size]; done) | (simp [pad_size]; omega)) _ _) | (with_reducible refine bs ?_ (by first | omega | (simp [pad_size]; done) | (simp [pad_size]; omega)) _) | (with_reducible refine bt ?_ (by assumption))))⟩
        · have hst := ovN_go (t := t) (e := e) hlt (by omega)
          rw [hst] at hc
          have hw1 : IntKind.u64.wrap (t - e) = t - e := by rw [IntKind.wrap_u64]; omega
          have hw2 : IntKind.u64.wrap (e + pl[i].n) = e + pl[i].n := by rw [IntKind.wrap_u64]; omega
          have hc2 : Hid (ovN pl s t = ((ovN (pl.drop (i + 1)) (e + pl[i].n) t).1 + (i + 1), (ovN (pl.drop (i + 1)) (e + pl[i].n) t).2)) := by
            unfold Hid; rw [hc.out]; simp only [Prod.mk.injEq, and_true]; omega
          clear hst hc
          go_wp2
          all_goals go_roundw
          case rel => exact ⟨i + 1, e + pl[i].n, by omega, by go_num, rfl, by go_num, by omega, hc2, by (repeat (first | (with_reducible exact Below.refl _ _) | (with_reducible assumption) | (with_reducible apply bd) | (with_reducible apply ba) | (with_reducible refine bp ?_ (by first | omega | (simp [pad_size]; done) | (simp [pad_size]; omega)) _ _) | (with_reducible refine bs ?_ (by first | omega | (simp [pad_size]; done) | (simp [pad_size]; omega)) _) | (with_reducible refine bt ?_ (by assumption))))⟩
          case measure => (simp [intOf]; omega)
    · obtain rfl : i = pl.length := by omega
      have hc3 : Hid (ovN pl s t = (pl.length, e)) := by unfold Hid; rw [hc.out, List.drop_length]; simp [ovN]
      clear hc
      go_wp2
      go_ret2
      rw [hc3.out]
      exact ⟨rfl, by (repeat (first | (with_reducible exact Below.refl _ _) | (with_reducible assumption) | (with_reducible apply bd) | (with_reducible apply ba) | (with_reducible refine bp ?_ (by first | omega | (simp [pad_size]; done) | (simp [pad_size]; omega)) _ _) | (with_reducible refine bs ?_ (by first | omega | (simp [pad_size]; done) | (simp [pad_size]; omega)) _) | (with_reducible refine bt ?_ (by assumption))))⟩
end Go.Proofs.Ytmfnfnegnfpkiaa

/- plan.together, plan.stepsRight. -/
namespace Go.Proofs.Ytmfnfnegnfpkiaa
open Go.RowKit

theorem IsCoins.sl {W : World} {v : Value} {l : List Cn} (h : IsCoins W v l) : ∃ a cap, v = .slice a l.length cap := by
  rcases h with ⟨rfl, a, cap, rfl⟩ | ⟨blk, off, cap, hv, -⟩
  · exact ⟨a, cap, rfl⟩
  · exact ⟨_, _, hv⟩
theorem sum_next {l : List Pd} {i : Nat} (hi : i < l.length) : opP (· + ·) (sumP (l.take i)) (amP l[i].l) = sumP (l.take (i + 1)) := by
  rw [sumP_snoc, List.take_succ_eq_append_getElem hi]
theorem tot_next {l : List Pd} {i : Nat} (hi : i < l.length) (d : Nat) : tot (l.take (i + 1)) d = vl (sumP (l.take i) d) + vl (amP l[i].l d) := by
  rw [sumP_vl, List.take_succ_eq_append_getElem hi, tot_snoc]
theorem pds_at {W : World} {a : Option Addr} {n c : Nat} {l : List Pd} (h : IsPds W (.slice a n c) l) : ∀ i x, l[i]? = some x → ∃ blk off, a = some ⟨blk, off, none⟩ ∧ blk < W.heap.size ∧ PdAt W blk (off + i * 2) x := by
  rcases h with ⟨rfl, -⟩ | ⟨blk, off, cap, ev, hne, _, hbl, hall⟩
  · intro i x hi; simp at hi
  · simp at ev
    obtain ⟨rfl, rfl, rfl⟩ := ev
    exact fun i x hi => ⟨blk, off, rfl, hbl, hall i x hi⟩
set_option maxRecDepth 20000 in
set_option maxHeartbeats 8000000 in
theorem together_any {v : Value} {l : List Pd} (w : World) (h : IsPds w v l) (hw : ∀ q ∈ l, PdWf q) (hs : ∀ q ∈ l, rightFrom 0 q.l = true) :
    Calls Try.prog 50 #[v] w fun e w' =>
      ((∀ d, d < 8 → tot l d < 115792089237316195423570985008687907853269984665640564039457584007913129639936) ∧ ∃ u, e = .returned (.tuple #[u, .int .i64 0]) ∧ IsCoins w' u (lst (sumP l) 8) ∧ Below w.heap.size w w') ∨
      ((∃ d, d < 8 ∧ 115792089237316195423570985008687907853269984665640564039457584007913129639936 ≤ tot l d) ∧ e = .returned (.tuple #[.slice none 0 0, .int .i64 2]) ∧ Below w.heap.size w w') := by
  obtain ⟨a2, c2, rfl⟩ := h.slice
  have hlen := h.len
  have hlen' : (l.length : Int) ≤ 9223372036854775807 := by omega
  have hP : Hid _ := pds_at h
  clear h
  go_enter Try.func50, Try.ntmps50
  go_wp2
  go_loopw [2, 3, 8] (fun av ev iv X => ∃ (i n c : Nat) (a : Option Addr), i ≤ l.length ∧ av = .slice a n c ∧ ev = .int .i64 0 ∧ iv = .int .i64 (i : Int) ∧ Hid (∀ d, d < 8 → tot (l.take i) d < 115792089237316195423570985008687907853269984665640564039457584007913129639936) ∧ Hid (IsCoins X (.slice a n c) (lst (sumP (l.take i)) 8)) ∧ Below w.heap.size w X) (fun _ _ iv _ => l.length - (intOf iv).toNat)
  case atStart => exact ⟨0, 0, 0, none, by omega, rfl, rfl, rfl, fun d _ => by simp [tot], by unfold Hid; rw [List.take_zero, sumP_nil]; exact .inl ⟨rfl, _, _, rfl⟩, Below.refl _ _⟩
  case round =>
    obtain ⟨i, n, c, a, hi, rfl, rfl, rfl, hf, hc, hX⟩ := hrel
    by_cases hlt : i < l.length
    · have hlt' : (i : Int) < (l.length : Int) := by omega
      obtain ⟨blk, off, rfl, hbl, hA⟩ := hP.out i l[i] (List.getElem?_eq_getElem hlt)
      obtain ⟨d0, d1, hxc⟩ := hA.below hbl hX
      have hxr := hxc.lst (hs l[i] (List.getElem_mem hlt))
      obtain ⟨a1, c1, ev1⟩ := hxc.slice
      rw [ev1] at d1 hxr
      have hbx : Below wr.heap.size wr (wr.alloc (.cells #[.int .u64 l[i].n, .slice a1 l[i].l.length c1] 73)) := ba (Below.refl _ _) _
      have hz := sumP_purse (l := l.take i) (fun q hq => hw q (List.mem_of_mem_take hq)) hf.out
      have hy := amP_purse (hw l[i] (List.getElem_mem hlt)).l
      by_cases hff : ∀ d, d < 8 → tot (l.take (i + 1)) d < 115792089237316195423570985008687907853269984665640564039457584007913129639936
      · have hC := addC_fit hz hy (fun d hd => by rw [← tot_next hlt]; exact hff d hd) _ (hc.out.below hbx) (hxr.below hbx)
        rw [sum_next hlt] at hC
        have hff : Hid _ := hff
        clear hz hy hxr hxc hA hf hc ev1
        go_wp2_with (go_at_call 82; refine hC.mono ?_; rintro e w1 ⟨u, rfl, hu, hb1⟩; obtain ⟨au, cu, rfl⟩ := hu.sl; have hu : Hid _ := hu)
        all_goals go_roundw
        case rel => exact ⟨i + 1, _, _, _, by omega, rfl, rfl, by go_num, hff, hu, bt (ba hX _) hb1⟩
        case measure => (simp [intOf]; omega)
      · have hex : ∃ d, d < 8 ∧ 115792089237316195423570985008687907853269984665640564039457584007913129639936 ≤ tot (l.take (i + 1)) d := Classical.byContradiction fun hn => hff fun d hd => Int.not_le.1 fun e => hn ⟨d, hd, e⟩
        have hC := addC_no hz hy (by obtain ⟨d, hd, e⟩ := hex; exact ⟨d, hd, by rw [← tot_next hlt]; exact e⟩) _ (hc.out.below hbx) (hxr.below hbx)
        have hex2 : Hid (∃ d, d < 8 ∧ 115792089237316195423570985008687907853269984665640564039457584007913129639936 ≤ tot l d) := by
          obtain ⟨d, hd, e⟩ := hex
          have := tot_take hw (i + 1) hd
          exact ⟨d, hd, by omega⟩
        clear hz hy hxr hxc hA hf hc ev1 hff hex
        go_wp2_with (go_at_call 82; refine hC.mono ?_; rintro e w1 ⟨rfl, hb1⟩)
        go_ret2
        exact .inr ⟨hex2.out, rfl, bt (ba hX _) hb1⟩
    · obtain rfl : i = l.length := by omega
      rw [List.take_length] at hf hc
      go_wp2
      go_ret2
      exact .inl ⟨hf.out, _, rfl, hc.out, hX⟩
end Go.Proofs.Ytmfnfnegnfpkiaa

/- math/bits.Div64. -/
namespace Go.Proofs.Ytmfnfnegnfpkiaa
open Go.RowKit

/-- The guess of a digit is not too small; P is the guess times the lower half. -/
def DInv (u a b d q r : Int) : Prop := 0 ≤ q ∧ q * a + r = u ∧ 0 ≤ r ∧ r < 4294967296 ∧ d + r * 4294967296 < q * b + a * 4294967296 + b
def DFin (u a b d q : Int) : Prop := 0 ≤ q ∧ q < 4294967296 ∧ q * (a * 4294967296 + b) ≤ u * 4294967296 + d ∧ u * 4294967296 + d < (q + 1) * (a * 4294967296 + b)
def DNorm (a b d u : Int) : Prop := (2147483648 ≤ a ∧ a < 4294967296) ∧ (0 ≤ b ∧ b < 4294967296) ∧ (0 ≤ d ∧ d < 4294967296) ∧ 0 ≤ u ∧ u < a * 4294967296 + b

theorem dinv_start {u a b d q : Int} (h : DNorm a b d u) (hq : u / a = q) : DInv u a b d q (u - q * a) ∧ 0 ≤ q * a ∧ q * a ≤ u ∧ 0 ≤ q := by
  obtain ⟨ha, hb, hd, hu0, hu1⟩ := h
  have h1 := Int.emod_add_mul_ediv u a
  have h2 := Int.emod_nonneg u (show a ≠ 0 by omega)
  have h3 := Int.emod_lt_of_pos u (show 0 < a by omega)
  have h4 : 0 ≤ u / a := Int.ediv_nonneg hu0 (by omega)
  rw [hq] at h1 h4
  rw [Int.mul_comm a q] at h1
  have h5 : 0 ≤ q * b := Int.mul_nonneg h4 hb.1
  have h6 : 0 ≤ q * a := Int.mul_nonneg h4 (by omega)
  refine ⟨⟨h4, by omega, by omega, by omega, ?_⟩, h6, by omega, h4⟩
  generalize q * a = A at *
  generalize q * b = P at *
  omega

theorem dinv_prod {u a b d q r : Int} (h : DNorm a b d u) (k : DInv u a b d q r) (hq : q < 4294967296) : 0 ≤ q * b ∧ q * b < 18446744073709551616 := by
  obtain ⟨ha, hb, hd, hu0, hu1⟩ := h
  have h1 : q * b ≤ 4294967295 * 4294967295 := Int.mul_le_mul (by omega) (by omega) hb.1 (by omega)
  have h2 : 0 ≤ q * b := Int.mul_nonneg k.1 hb.1
  omega

theorem dinv_done {u a b d q r : Int} (h : DNorm a b d u) (k : DInv u a b d q r) (hq : q < 4294967296) (hp : q * b ≤ 4294967296 * r + d) : DFin u a b d q := by
  obtain ⟨k0, k1, k2, k3, k4⟩ := k
  have e1 : q * (a * 4294967296 + b) = q * a * 4294967296 + q * b := by rw [Int.mul_add, Int.mul_assoc]
  have e2 : (q + 1) * (a * 4294967296 + b) = q * a * 4294967296 + q * b + a * 4294967296 + b := by rw [Int.add_mul, e1]; omega
  refine ⟨k0, hq, ?_, ?_⟩
  · rw [e1]; generalize q * a = A at *; generalize q * b = P at *; omega
  · rw [e2]; generalize q * a = A at *; generalize q * b = P at *; omega

/-- The guess is too great: one less. -/
theorem dinv_next {u a b d q r : Int} (h : DNorm a b d u) (k : DInv u a b d q r) (ht : 4294967296 ≤ q ∨ 4294967296 * r + d < q * b) :
    1 ≤ q ∧ (r + a < 4294967296 → DInv u a b d (q - 1) (r + a)) ∧ (4294967296 ≤ r + a → DFin u a b d (q - 1)) := by
  obtain ⟨ha, hb, hd, hu0, hu1⟩ := h
  obtain ⟨k0, k1, k2, k3, k4⟩ := k
  have hs : 4294967296 * r + d < q * b := by
    rcases ht with ht | ht
    · have h1 : 4294967296 * a ≤ q * a := Int.mul_le_mul_of_nonneg_right ht (by omega)
      have h2 : 4294967296 * b ≤ q * b := Int.mul_le_mul_of_nonneg_right ht (by omega)
      generalize q * a = A at *
      generalize q * b = P at *
      omega
    · exact ht
  have hq1 : 1 ≤ q := by
    by_cases e : q = 0
    · subst e; omega
    · omega
  have e1 : (q - 1) * a = q * a - a := by rw [Int.sub_mul]; omega
  have e2 : (q - 1) * b = q * b - b := by rw [Int.sub_mul]; omega
  refine ⟨hq1, fun hr => ⟨by omega, ?_, by omega, hr, ?_⟩, fun hr => ?_⟩
  · rw [e1]; omega
  · rw [e2]; generalize q * b = P at *; omega
  · have hlt : q - 1 < 4294967296 := by
      by_cases c : q - 1 < 4294967296
      · exact c
      · have h1 : 4294967296 * a ≤ (q - 1) * a := Int.mul_le_mul_of_nonneg_right (by omega) (by omega)
        rw [e1] at h1
        generalize q * a = A at *
        omega
    have h3 : (q - 1) * b ≤ 4294967295 * 4294967295 := Int.mul_le_mul (by omega) (by omega) hb.1 (by omega)
    have f1 : (q - 1) * (a * 4294967296 + b) = (q - 1) * a * 4294967296 + (q - 1) * b := by rw [Int.mul_add, Int.mul_assoc]
    have f2 : (q - 1 + 1) * (a * 4294967296 + b) = (q - 1) * a * 4294967296 + (q - 1) * b + a * 4294967296 + b := by rw [Int.add_mul, f1]; omega
    refine ⟨by omega, hlt, ?_, ?_⟩
    · rw [f1]; rw [e1, e2] at *; generalize q * a = A at *; generalize q * b = P at *; omega
    · rw [f2]; rw [e1, e2] at *; generalize q * a = A at *; generalize q * b = P at *; omega

theorem dfin_rest {u a b d q : Int} (k : DFin u a b d q) : 0 ≤ u * 4294967296 + d - q * (a * 4294967296 + b) ∧ u * 4294967296 + d - q * (a * 4294967296 + b) < a * 4294967296 + b := by
  obtain ⟨k0, k1, k2, k3⟩ := k
  rw [Int.add_mul] at k3
  generalize q * (a * 4294967296 + b) = A at *
  omega

set_option maxHeartbeats 400000 in
theorem lead64_pos (x : Int) (h1 : 0 < x) (h2 : x < 18446744073709551616) (w : World) :
    Calls Try.prog 128 #[.int .u64 x] w fun e w' => ∃ s : Int, e = .returned (.int .i64 s) ∧ 0 ≤ s ∧ s < 64 ∧ Hid (9223372036854775808 ≤ x * 2 ^ s.toNat ∧ x * 2 ^ s.toNat < 18446744073709551616) ∧ w' = w := by
  refine (lead64_any x (by omega) h2 w).mono ?_
  rintro e w' ⟨rfl, rfl⟩
  obtain ⟨n, rfl⟩ := Int.eq_ofNat_of_zero_le (show 0 ≤ x by omega)
  have hb := bitLen_le64 (x := (n : Int)) (by omega) h2
  rw [Int.toNat_natCast] at *
  obtain ⟨g1, g2⟩ := bitLen_spec n
  have g2 := g2 (by omega)
  have hpos : 1 ≤ bitLen n := by
    unfold bitLen; rw [if_neg (by omega)]; omega
  refine ⟨_, rfl, by omega, by omega, ?_, rfl⟩
  have e : ((64 : Int) - (bitLen n : Int)).toNat = 64 - bitLen n := by omega
  rw [e]
  unfold Hid
  have p1 : 2 ^ (bitLen n - 1) * 2 ^ (64 - bitLen n) = 9223372036854775808 := by rw [← Nat.pow_add, show bitLen n - 1 + (64 - bitLen n) = 63 by omega]
  have p2 : 2 ^ bitLen n * 2 ^ (64 - bitLen n) = 18446744073709551616 := by rw [← Nat.pow_add, show bitLen n + (64 - bitLen n) = 64 by omega]
  have q1 : 2 ^ (bitLen n - 1) * 2 ^ (64 - bitLen n) ≤ n * 2 ^ (64 - bitLen n) := Nat.mul_le_mul_right _ g2
  have q2 : n * 2 ^ (64 - bitLen n) < 2 ^ bitLen n * 2 ^ (64 - bitLen n) := Nat.mul_lt_mul_of_pos_right g1 (Nat.two_pow_pos _)
  rw [p1] at q1; rw [p2] at q2
  have e2 : ((n : Int) * 2 ^ (64 - bitLen n)) = ((n * 2 ^ (64 - bitLen n) : Nat) : Int) := by simp
  rw [e2]
  omega

theorem div_norm {hi lo y s hh lh hl ll hy ly : Int} (hlo : 0 ≤ lo) (hhi : 0 ≤ hi) (hlt : hi < y) (hs : 0 ≤ s ∧ s < 64) (hn : Hid (9223372036854775808 ≤ y * 2 ^ s.toNat ∧ y * 2 ^ s.toNat < 18446744073709551616))
    (m1 : Hid (hi * 2 ^ s.toNat = hh * 18446744073709551616 + lh)) (b1 : 0 ≤ lh ∧ lh < 18446744073709551616) (g1 : 0 ≤ hh)
    (m2 : Hid (lo * 2 ^ s.toNat = hl * 18446744073709551616 + ll)) (g2 : 0 ≤ hl) (f2 : Hid (hl < 2 ^ s.toNat))
    (m3 : Hid (y * 2 ^ s.toNat = hy * 18446744073709551616 + ly)) (b3 : 0 ≤ ly ∧ ly < 18446744073709551616) (g3 : 0 ≤ hy) :
    hh = 0 ∧ hy = 0 ∧ lh + hl < ly ∧ 9223372036854775808 ≤ ly ∧ Hid (ly = y * 2 ^ s.toNat) ∧ Hid ((hi * 18446744073709551616 + lo) * 2 ^ s.toNat = (lh + hl) * 18446744073709551616 + ll) := by
  unfold Hid at *
  have hT : (0 : Int) < 2 ^ s.toNat := Int.pow_pos (by omega)
  generalize (2 : Int) ^ s.toNat = T at *
  have h1 : (hi + 1) * T ≤ y * T := Int.mul_le_mul_of_nonneg_right (by omega) (by omega)
  rw [Int.add_mul] at h1
  have e : (hi * 18446744073709551616 + lo) * T = hi * T * 18446744073709551616 + lo * T := by rw [Int.add_mul, Int.mul_right_comm]
  rw [e]
  generalize hi * T = A at *
  generalize lo * T = B at *
  generalize y * T = C at *
  have hy0 : hy = 0 := by omega
  have hh0 : hh = 0 := by omega
  subst hy0 hh0
  refine ⟨rfl, rfl, by omega, by omega, by omega, by omega⟩

theorem half_parts (z : Int) (h : 0 ≤ z ∧ z < 18446744073709551616) : ∃ a b : Int, z / 4294967296 = a ∧ bits .and .u64 z 4294967295 = b ∧ Hid (z = a * 4294967296 + b) ∧ 0 ≤ a ∧ a < 4294967296 ∧ 0 ≤ b ∧ b < 4294967296 := by
  refine ⟨_, _, rfl, and_low32 z h.1 h.2, show _ = _ by omega, by omega, by omega, by omega, by omega⟩
theorem div_dnorm {ly a b c u : Int} (hab : Hid (ly = a * 4294967296 + b)) (z4 : 9223372036854775808 ≤ ly) (b3 : 0 ≤ ly ∧ ly < 18446744073709551616) (b4 : 0 ≤ b) (b5 : b < 4294967296) (c1 : 0 ≤ c) (c2 : c < 4294967296) (z3 : u < ly) (hu : 0 ≤ u) : DNorm a b c u := by
  have hab := hab.out
  exact ⟨⟨by omega, by omega⟩, ⟨b4, b5⟩, ⟨c1, c2⟩, hu, by omega⟩

theorem un21 {u a b c q ly : Int} (hab : Hid (ly = a * 4294967296 + b)) (hly : ly < 18446744073709551616) (hF : DFin u a b c q) :
    ∃ v, IntKind.u64.wrap (IntKind.u64.wrap (IntKind.u64.wrap (u * 4294967296) + c) - IntKind.u64.wrap (q * ly)) = v ∧ Hid (u * 4294967296 + c = q * ly + v) ∧ 0 ≤ v ∧ v < ly := by
  obtain ⟨h1, h2⟩ := dfin_rest hF
  rw [← hab.out] at h1 h2
  refine ⟨u * 4294967296 + c - q * ly, ?_, show _ = _ by omega, h1, h2⟩
  simp only [IntKind.wrap_u64]
  generalize q * ly = A at *
  omega

theorem quo_wrap {q p : Int} (h1 : 0 ≤ q ∧ q < 4294967296) (h2 : 0 ≤ p ∧ p < 4294967296) : IntKind.u64.wrap (IntKind.u64.wrap (q * 4294967296) + p) = q * 4294967296 + p := by
  simp only [IntKind.wrap_u64]; omega

theorem quo_wrap1 {q p : Int} (h1 : 0 ≤ q ∧ q < 4294967296) (h2 : 0 ≤ p ∧ p < 4294967296) : IntKind.u64.wrap (q * 4294967296 + p) = q * 4294967296 + p := by
  simp only [IntKind.wrap_u64]; omega

theorem div_fin {hi lo y s u ll ly c d q p v x : Int} (hs : 0 ≤ s) (z5 : Hid (ly = y * 2 ^ s.toNat)) (z6 : Hid ((hi * 18446744073709551616 + lo) * 2 ^ s.toNat = u * 18446744073709551616 + ll)) (hcd : Hid (ll = c * 4294967296 + d))
    (e1 : Hid (u * 4294967296 + c = q * ly + v)) (e2 : Hid (v * 4294967296 + d = p * ly + x)) (x0 : 0 ≤ x) (x1 : x < ly) :
    0 ≤ x / 2 ^ s.toNat ∧ x / 2 ^ s.toNat < y ∧ hi * 18446744073709551616 + lo = (q * 4294967296 + p) * y + x / 2 ^ s.toNat := by
  unfold Hid at *
  have hT : (0 : Int) < 2 ^ s.toNat := Int.pow_pos (by omega)
  generalize (2 : Int) ^ s.toNat = T at *
  generalize hi * 18446744073709551616 + lo = N at *
  have e3 : N * T = (q * 4294967296 + p) * y * T + x := by
    have : (q * 4294967296 + p) * y * T = q * ly * 4294967296 + p * ly := by
      rw [z5]; grind
    rw [this, z6, hcd]
    generalize q * ly = A at *
    generalize p * ly = B at *
    omega
  have e4 : x = (N - (q * 4294967296 + p) * y) * T := by rw [Int.sub_mul, e3]; omega
  have e5 : x / T = N - (q * 4294967296 + p) * y := by rw [e4]; exact Int.mul_ediv_cancel _ (by omega)
  have e6 : 0 ≤ x / T := Int.ediv_nonneg x0 (by omega)
  have e7 : x / T < y := by
    apply Int.ediv_lt_of_lt_mul hT
    rw [← z5]; exact x1
  refine ⟨e6, e7, ?_⟩
  rw [e5]; omega

set_option maxHeartbeats 4000000 in
theorem div64_hi (hi lo y : Int) (h0 : 0 < hi) (h1 : hi < y) (hy : y < 18446744073709551616) (hlo : 0 ≤ lo ∧ lo < 18446744073709551616) (w : World) :
    Calls Try.prog 129 #[.int .u64 hi, .int .u64 lo, .int .u64 y] w fun e w' => ∃ q r : Int, e = .returned (.tuple #[.int .u64 q, .int .u64 r]) ∧ (0 ≤ q ∧ q < 18446744073709551616) ∧ (0 ≤ r ∧ r < y) ∧ Hid (hi * 18446744073709551616 + lo = q * y + r) ∧ Below w.heap.size w w' := by
  have hy0 : ¬ y = 0 := by omega
  have hyb : (y == 0) = false := by simp; omega
  have hhb : (hi == 0) = false := by simp; omega
  have hyle : ¬ y ≤ hi := by omega
  go_enter Try.func129, Try.ntmps129
  go_wp2_with (go_at_call 128; refine (lead64_pos y (by omega) hy _).mono ?_; rintro e w' ⟨s, rfl, hs0, hs1, hn, rfl⟩; obtain ⟨hh, lh, s1, v1, m1, b1, d1, g1, f1, t1⟩ := shl_part hi s ⟨by omega, by omega⟩ ⟨hs0, hs1⟩; obtain ⟨hl, ll, s2, v2, m2, b2, d2, g2, f2, t2⟩ := shl_part lo s hlo ⟨hs0, hs1⟩; obtain ⟨hyy, ly, s3, v3, m3, b3, d3, g3, f3, t3⟩ := shl_part y s ⟨by omega, by omega⟩ ⟨hs0, hs1⟩; obtain ⟨z1, z2, z3, z4, z5, z6⟩ := div_norm hlo.1 (by omega) h1 ⟨hs0, hs1⟩ hn m1 b1 g1 m2 g2 f2 m3 b3 g3; obtain ⟨o1, o2⟩ := shl_or ⟨hs0, hs1⟩ b1 d1 g2 f2 t2; obtain ⟨u, hu⟩ : ∃ u, lh + hl = u := ⟨_, rfl⟩; rw [hu] at o1 o2 z3 z6; obtain ⟨a, b, ha, hb, hab, a1, a2, b4, b5⟩ := half_parts ly b3; obtain ⟨c, d, hc, hd, hcd, c1, c2, d4, d5⟩ := half_parts ll b2; have hN : DNorm a b c u := div_dnorm hab z4 b3 b4 b5 c1 c2 z3 (by omega) ; have hN' : DNorm a b d u := div_dnorm hab z4 b3 b4 b5 d4 d5 z3 (by omega); obtain ⟨q, hq⟩ : ∃ q, u / a = q := ⟨_, rfl⟩; obtain ⟨i1, i2, i3, i4⟩ := dinv_start hN hq; have hu0 : 0 ≤ u := (by omega); clear v1 m1 d1 g1 f1 t1 m2 d2 m3 d3 g3 f3 t3 b1 hn z1 z2)
  go_loop [15, 16] (fun x15 x16 => ∃ q r : Int, x15 = .int .u64 q ∧ x16 = .int .u64 r ∧ DInv u a b c q r ∧ q < 18446744073709551616) (fun x15 _ => (intOf x15).toNat)
  case atStart => exact ⟨q, _, by rw [hq], rfl, i1, by have := Int.ediv_le_self a hu0; omega⟩
  case round =>
    clear i1 i2 i3 i4
    obtain ⟨k, r, rfl, rfl, hI, hqM⟩ := hrel
    have hI0 := hI.1; have hI2 := hI.2.2.1; have hI3 := hI.2.2.2.1
    have ha0 := hN.1.1; have ha1 := hN.1.2
    by_cases c1 : 4294967296 ≤ k
    · obtain ⟨n1, n2, n3⟩ := dinv_next hN hI (.inl c1)
      by_cases c3 : 4294967296 ≤ r + a
      · have hF := n3 c3
        clear n2 n3
        clear hI
        obtain ⟨v, hv, vh, v0, v1⟩ := un21 (u := u) (c := c) hab b3.2 hF
        have hM : DNorm a b d v := div_dnorm hab z4 b3 b4 b5 d4 d5 v1 v0
        obtain ⟨p, hp⟩ : ∃ p, v / a = p := ⟨_, rfl⟩
        obtain ⟨j1, j2, j3, j4⟩ := dinv_start hM hp
        have hvM : v < 18446744073709551616 := by omega
        go_wp2
        go_loop [18, 16] (fun x15 x16 => ∃ q r : Int, x15 = .int .u64 q ∧ x16 = .int .u64 r ∧ DInv v a b d q r ∧ q < 18446744073709551616) (fun x15 _ => (intOf x15).toNat)
        case atStart => exact ⟨p, _, by first | rfl | rw [hp], rfl, j1, by have := Int.ediv_le_self a v0; omega⟩
        case round =>
          clear j1 j2 j3 j4
          obtain ⟨j, f, rfl, rfl, hJ, hjM⟩ := hrel
          have hJ0 := hJ.1; have hJ2 := hJ.2.2.1; have hJ3 := hJ.2.2.2.1
          by_cases e1 : 4294967296 ≤ j
          · obtain ⟨n1, n2, n3⟩ := dinv_next hM hJ (.inl e1)
            by_cases e3 : 4294967296 ≤ f + a
            · have hG := n3 e3
              clear n2 n3 hJ
              obtain ⟨x, xe, xh, x0, x1⟩ := un21 (u := v) (c := d) hab b3.2 hG
              have hq2 := quo_wrap ⟨hF.1, hF.2.1⟩ ⟨hG.1, hG.2.1⟩; have hq3 := quo_wrap1 ⟨hF.1, hF.2.1⟩ ⟨hG.1, hG.2.1⟩
              go_wp2
              go_ret2
              obtain ⟨y0, y1, y2⟩ := div_fin hs0 z5 z6 hcd vh xh x0 x1
              refine ⟨_, _, rfl, ⟨?_, ?_⟩, ⟨y0, y1⟩, y2, Below.refl _ _⟩
              · have := hF.1; have := hG.1; omega
              · have := hF.2.1; have := hG.2.1; omega
            · have hG := n2 (by omega)
              clear n2 n3
              go_wp2
              go_round
              case rel => exact ⟨j - 1, f + a, rfl, rfl, hG, by omega⟩
              case measure => simp [intOf]; omega
          · have hP2 := dinv_prod hM hJ (by omega)
            obtain ⟨P2, hP2e⟩ : ∃ P, j * b = P := ⟨_, rfl⟩
            rw [hP2e] at hP2
            by_cases e2 : 4294967296 * f + d < P2
            · obtain ⟨n1, n2, n3⟩ := dinv_next hM hJ (.inr (by rw [hP2e]; exact e2))
              by_cases e3 : 4294967296 ≤ f + a
              · have hG := n3 e3
                clear n2 n3 hJ
                obtain ⟨x, xe, xh, x0, x1⟩ := un21 (u := v) (c := d) hab b3.2 hG
                have hq2 := quo_wrap ⟨hF.1, hF.2.1⟩ ⟨hG.1, hG.2.1⟩; have hq3 := quo_wrap1 ⟨hF.1, hF.2.1⟩ ⟨hG.1, hG.2.1⟩
                go_wp2
                go_ret2
                obtain ⟨y0, y1, y2⟩ := div_fin hs0 z5 z6 hcd vh xh x0 x1
                refine ⟨_, _, rfl, ⟨?_, ?_⟩, ⟨y0, y1⟩, y2, Below.refl _ _⟩
                · have := hF.1; have := hG.1; omega
                · have := hF.2.1; have := hG.2.1; omega
              · have hG := n2 (by omega)
                clear n2 n3
                go_wp2
                go_round
                case rel => exact ⟨j - 1, f + a, rfl, rfl, hG, by omega⟩
                case measure => simp [intOf]; omega
            · have hG := dinv_done hM hJ (by omega) (by rw [hP2e]; omega)
              clear hJ
              obtain ⟨x, xe, xh, x0, x1⟩ := un21 (u := v) (c := d) hab b3.2 hG
              have hq2 := quo_wrap ⟨hF.1, hF.2.1⟩ ⟨hG.1, hG.2.1⟩; have hq3 := quo_wrap1 ⟨hF.1, hF.2.1⟩ ⟨hG.1, hG.2.1⟩
              go_wp2
              go_ret2
              obtain ⟨y0, y1, y2⟩ := div_fin hs0 z5 z6 hcd vh xh x0 x1
              refine ⟨_, _, rfl, ⟨?_, ?_⟩, ⟨y0, y1⟩, y2, Below.refl _ _⟩
              · have := hF.1; have := hG.1; omega
              · have := hF.2.1; have := hG.2.1; omega
      · have hF := n2 (by omega)
        clear n2 n3
        go_wp2
        go_round
        case rel => exact ⟨k - 1, r + a, rfl, rfl, hF, by omega⟩
        case measure => simp [intOf]; omega
    · have hP := dinv_prod hN hI (by omega)
      obtain ⟨P, hPe⟩ : ∃ P, k * b = P := ⟨_, rfl⟩
      rw [hPe] at hP
      by_cases c2 : 4294967296 * r + c < P
      · obtain ⟨n1, n2, n3⟩ := dinv_next hN hI (.inr (by rw [hPe]; exact c2))
        by_cases c3 : 4294967296 ≤ r + a
        · have hF := n3 c3
          clear n2 n3
          clear hI
          obtain ⟨v, hv, vh, v0, v1⟩ := un21 (u := u) (c := c) hab b3.2 hF
          have hM : DNorm a b d v := div_dnorm hab z4 b3 b4 b5 d4 d5 v1 v0
          obtain ⟨p, hp⟩ : ∃ p, v / a = p := ⟨_, rfl⟩
          obtain ⟨j1, j2, j3, j4⟩ := dinv_start hM hp
          have hvM : v < 18446744073709551616 := by omega
          go_wp2
          go_loop [18, 16] (fun x15 x16 => ∃ q r : Int, x15 = .int .u64 q ∧ x16 = .int .u64 r ∧ DInv v a b d q r ∧ q < 18446744073709551616) (fun x15 _ => (intOf x15).toNat)
          case atStart => exact ⟨p, _, by first | rfl | rw [hp], rfl, j1, by have := Int.ediv_le_self a v0; omega⟩
          case round =>
            clear j1 j2 j3 j4
            obtain ⟨j, f, rfl, rfl, hJ, hjM⟩ := hrel
            have hJ0 := hJ.1; have hJ2 := hJ.2.2.1; have hJ3 := hJ.2.2.2.1
            by_cases e1 : 4294967296 ≤ j
            · obtain ⟨n1, n2, n3⟩ := dinv_next hM hJ (.inl e1)
              by_cases e3 : 4294967296 ≤ f + a
              · have hG := n3 e3
                clear n2 n3 hJ
                obtain ⟨x, xe, xh, x0, x1⟩ := un21 (u := v) (c := d) hab b3.2 hG
                have hq2 := quo_wrap ⟨hF.1, hF.2.1⟩ ⟨hG.1, hG.2.1⟩; have hq3 := quo_wrap1 ⟨hF.1, hF.2.1⟩ ⟨hG.1, hG.2.1⟩
                go_wp2
                go_ret2
                obtain ⟨y0, y1, y2⟩ := div_fin hs0 z5 z6 hcd vh xh x0 x1
                refine ⟨_, _, rfl, ⟨?_, ?_⟩, ⟨y0, y1⟩, y2, Below.refl _ _⟩
                · have := hF.1; have := hG.1; omega
                · have := hF.2.1; have := hG.2.1; omega
              · have hG := n2 (by omega)
                clear n2 n3
                go_wp2
                go_round
                case rel => exact ⟨j - 1, f + a, rfl, rfl, hG, by omega⟩
                case measure => simp [intOf]; omega
            · have hP2 := dinv_prod hM hJ (by omega)
              obtain ⟨P2, hP2e⟩ : ∃ P, j * b = P := ⟨_, rfl⟩
              rw [hP2e] at hP2
              by_cases e2 : 4294967296 * f + d < P2
              · obtain ⟨n1, n2, n3⟩ := dinv_next hM hJ (.inr (by rw [hP2e]; exact e2))
                by_cases e3 : 4294967296 ≤ f + a
                · have hG := n3 e3
                  clear n2 n3 hJ
                  obtain ⟨x, xe, xh, x0, x1⟩ := un21 (u := v) (c := d) hab b3.2 hG
                  have hq2 := quo_wrap ⟨hF.1, hF.2.1⟩ ⟨hG.1, hG.2.1⟩; have hq3 := quo_wrap1 ⟨hF.1, hF.2.1⟩ ⟨hG.1, hG.2.1⟩
                  go_wp2
                  go_ret2
                  obtain ⟨y0, y1, y2⟩ := div_fin hs0 z5 z6 hcd vh xh x0 x1
                  refine ⟨_, _, rfl, ⟨?_, ?_⟩, ⟨y0, y1⟩, y2, Below.refl _ _⟩
                  · have := hF.1; have := hG.1; omega
                  · have := hF.2.1; have := hG.2.1; omega
                · have hG := n2 (by omega)
                  clear n2 n3
                  go_wp2
                  go_round
                  case rel => exact ⟨j - 1, f + a, rfl, rfl, hG, by omega⟩
                  case measure => simp [intOf]; omega
              · have hG := dinv_done hM hJ (by omega) (by rw [hP2e]; omega)
                clear hJ
                obtain ⟨x, xe, xh, x0, x1⟩ := un21 (u := v) (c := d) hab b3.2 hG
                have hq2 := quo_wrap ⟨hF.1, hF.2.1⟩ ⟨hG.1, hG.2.1⟩; have hq3 := quo_wrap1 ⟨hF.1, hF.2.1⟩ ⟨hG.1, hG.2.1⟩
                go_wp2
                go_ret2
                obtain ⟨y0, y1, y2⟩ := div_fin hs0 z5 z6 hcd vh xh x0 x1
                refine ⟨_, _, rfl, ⟨?_, ?_⟩, ⟨y0, y1⟩, y2, Below.refl _ _⟩
                · have := hF.1; have := hG.1; omega
                · have := hF.2.1; have := hG.2.1; omega
        · have hF := n2 (by omega)
          clear n2 n3
          go_wp2
          go_round
          case rel => exact ⟨k - 1, r + a, rfl, rfl, hF, by omega⟩
          case measure => simp [intOf]; omega
      · have hF := dinv_done hN hI (by omega) (by rw [hPe]; omega)
        clear hI
        obtain ⟨v, hv, vh, v0, v1⟩ := un21 (u := u) (c := c) hab b3.2 hF
        have hM : DNorm a b d v := div_dnorm hab z4 b3 b4 b5 d4 d5 v1 v0
        obtain ⟨p, hp⟩ : ∃ p, v / a = p := ⟨_, rfl⟩
        obtain ⟨j1, j2, j3, j4⟩ := dinv_start hM hp
        have hvM : v < 18446744073709551616 := by omega
        go_wp2
        go_loop [18, 16] (fun x15 x16 => ∃ q r : Int, x15 = .int .u64 q ∧ x16 = .int .u64 r ∧ DInv v a b d q r ∧ q < 18446744073709551616) (fun x15 _ => (intOf x15).toNat)
        case atStart => exact ⟨p, _, by first | rfl | rw [hp], rfl, j1, by have := Int.ediv_le_self a v0; omega⟩
        case round =>
          clear j1 j2 j3 j4
          obtain ⟨j, f, rfl, rfl, hJ, hjM⟩ := hrel
          have hJ0 := hJ.1; have hJ2 := hJ.2.2.1; have hJ3 := hJ.2.2.2.1
          by_cases e1 : 4294967296 ≤ j
          · obtain ⟨n1, n2, n3⟩ := dinv_next hM hJ (.inl e1)
            by_cases e3 : 4294967296 ≤ f + a
            · have hG := n3 e3
              clear n2 n3 hJ
              obtain ⟨x, xe, xh, x0, x1⟩ := un21 (u := v) (c := d) hab b3.2 hG
              have hq2 := quo_wrap ⟨hF.1, hF.2.1⟩ ⟨hG.1, hG.2.1⟩; have hq3 := quo_wrap1 ⟨hF.1, hF.2.1⟩ ⟨hG.1, hG.2.1⟩
              go_wp2
              go_ret2
              obtain ⟨y0, y1, y2⟩ := div_fin hs0 z5 z6 hcd vh xh x0 x1
              refine ⟨_, _, rfl, ⟨?_, ?_⟩, ⟨y0, y1⟩, y2, Below.refl _ _⟩
              · have := hF.1; have := hG.1; omega
              · have := hF.2.1; have := hG.2.1; omega
            · have hG := n2 (by omega)
              clear n2 n3
              go_wp2
              go_round
              case rel => exact ⟨j - 1, f + a, rfl, rfl, hG, by omega⟩
              case measure => simp [intOf]; omega
          · have hP2 := dinv_prod hM hJ (by omega)
            obtain ⟨P2, hP2e⟩ : ∃ P, j * b = P := ⟨_, rfl⟩
            rw [hP2e] at hP2
            by_cases e2 : 4294967296 * f + d < P2
            · obtain ⟨n1, n2, n3⟩ := dinv_next hM hJ (.inr (by rw [hP2e]; exact e2))
              by_cases e3 : 4294967296 ≤ f + a
              · have hG := n3 e3
                clear n2 n3 hJ
                obtain ⟨x, xe, xh, x0, x1⟩ := un21 (u := v) (c := d) hab b3.2 hG
                have hq2 := quo_wrap ⟨hF.1, hF.2.1⟩ ⟨hG.1, hG.2.1⟩; have hq3 := quo_wrap1 ⟨hF.1, hF.2.1⟩ ⟨hG.1, hG.2.1⟩
                go_wp2
                go_ret2
                obtain ⟨y0, y1, y2⟩ := div_fin hs0 z5 z6 hcd vh xh x0 x1
                refine ⟨_, _, rfl, ⟨?_, ?_⟩, ⟨y0, y1⟩, y2, Below.refl _ _⟩
                · have := hF.1; have := hG.1; omega
                · have := hF.2.1; have := hG.2.1; omega
              · have hG := n2 (by omega)
                clear n2 n3
                go_wp2
                go_round
                case rel => exact ⟨j - 1, f + a, rfl, rfl, hG, by omega⟩
                case measure => simp [intOf]; omega
            · have hG := dinv_done hM hJ (by omega) (by rw [hP2e]; omega)
              clear hJ
              obtain ⟨x, xe, xh, x0, x1⟩ := un21 (u := v) (c := d) hab b3.2 hG
              have hq2 := quo_wrap ⟨hF.1, hF.2.1⟩ ⟨hG.1, hG.2.1⟩; have hq3 := quo_wrap1 ⟨hF.1, hF.2.1⟩ ⟨hG.1, hG.2.1⟩
              go_wp2
              go_ret2
              obtain ⟨y0, y1, y2⟩ := div_fin hs0 z5 z6 hcd vh xh x0 x1
              refine ⟨_, _, rfl, ⟨?_, ?_⟩, ⟨y0, y1⟩, y2, Below.refl _ _⟩
              · have := hF.1; have := hG.1; omega
              · have := hF.2.1; have := hG.2.1; omega
end Go.Proofs.Ytmfnfnegnfpkiaa

/- num.noughts. -/
namespace Go.Proofs.Ytmfnfnegnfpkiaa
open Go.RowKit Go.Shelf
attribute [local go_sem] Oper.semAt_some

theorem kp_set {B : Nat} {W : World} {b o : Nat} {v : Value} (h : B ≠ b) : KpB B W (W.setCell ⟨b, o, none⟩ v).drew :=
  Below.heap_setCell W ⟨b, o, none⟩ v B h

theorem nought_T {x s : Int} (h5 : 0 ≤ s) (h6 : s < 64) (h7 : 9223372036854775808 ≤ x * 2 ^ s.toNat ∧ x * 2 ^ s.toNat < 18446744073709551616) : x * 2 ^ s.toNat + 2 ^ s.toNat ≤ 18446744073709551616 ∧ (0 : Int) < 2 ^ s.toNat := by
  obtain ⟨t, rfl⟩ := Int.eq_ofNat_of_zero_le h5
  rw [Int.toNat_natCast] at *
  obtain ⟨hTU, hT, hU, hT2⟩ := pow_split t (by omega)
  generalize (2 : Int) ^ t = T at *
  generalize (2 : Int) ^ (64 - t) = U at *
  have h1 : x < U := by
    apply Int.lt_of_mul_lt_mul_right (a := T) _ (by omega)
    rw [Int.mul_comm U T, hTU]; exact h7.2
  have h2 : (x + 1) * T ≤ U * T := Int.mul_le_mul_of_nonneg_right (by omega) (by omega)
  rw [Int.mul_comm U T, hTU, Int.add_mul] at h2
  exact ⟨by omega, hT⟩

theorem nought_0 {V x t s : Int} (h5 : 0 ≤ s) (h6 : s < 64) (h7 : 9223372036854775808 ≤ x * 2 ^ s.toNat ∧ x * 2 ^ s.toNat < 18446744073709551616) (hV : V = x * 6277101735386680763835789423207666416102355444464034512896 + t) (ht : 0 ≤ t ∧ t < 6277101735386680763835789423207666416102355444464034512896) :
    57896044618658097711785492504343953926634992332820282019728792003956564819968 ≤ V * 2 ^ (0 + s).toNat ∧ V * 2 ^ (0 + s).toNat < 115792089237316195423570985008687907853269984665640564039457584007913129639936 := by
  obtain ⟨g1, g2⟩ := nought_T h5 h6 h7
  have e : (2 : Int) ^ (0 + s).toNat = 1 * 2 ^ s.toNat := by
    rw [show (0 + s).toNat = 0 + s.toNat by omega, Int.pow_add]; rfl
  rw [e]
  generalize (2 : Int) ^ s.toNat = T at *
  have e1 : V * (1 * T) = x * T * 6277101735386680763835789423207666416102355444464034512896 + t * T * 1 := by rw [hV]; grind
  have e2 : t * T ≤ 6277101735386680763835789423207666416102355444464034512895 * T := Int.mul_le_mul_of_nonneg_right (by omega) (by omega)
  have e3 : 0 ≤ t * T := Int.mul_nonneg ht.1 (by omega)
  rw [e1]
  generalize t * T = A at *
  generalize x * T = B at *
  omega

theorem nought_1 {V x t s : Int} (h5 : 0 ≤ s) (h6 : s < 64) (h7 : 9223372036854775808 ≤ x * 2 ^ s.toNat ∧ x * 2 ^ s.toNat < 18446744073709551616) (hV : V = x * 340282366920938463463374607431768211456 + t) (ht : 0 ≤ t ∧ t < 340282366920938463463374607431768211456) :
    57896044618658097711785492504343953926634992332820282019728792003956564819968 ≤ V * 2 ^ (64 + s).toNat ∧ V * 2 ^ (64 + s).toNat < 115792089237316195423570985008687907853269984665640564039457584007913129639936 := by
  obtain ⟨g1, g2⟩ := nought_T h5 h6 h7
  have e : (2 : Int) ^ (64 + s).toNat = 18446744073709551616 * 2 ^ s.toNat := by
    rw [show (64 + s).toNat = 64 + s.toNat by omega, Int.pow_add]; rfl
  rw [e]
  generalize (2 : Int) ^ s.toNat = T at *
  have e1 : V * (18446744073709551616 * T) = x * T * 6277101735386680763835789423207666416102355444464034512896 + t * T * 18446744073709551616 := by rw [hV]; grind
  have e2 : t * T ≤ 340282366920938463463374607431768211455 * T := Int.mul_le_mul_of_nonneg_right (by omega) (by omega)
  have e3 : 0 ≤ t * T := Int.mul_nonneg ht.1 (by omega)
  rw [e1]
  generalize t * T = A at *
  generalize x * T = B at *
  omega

theorem nought_2 {V x t s : Int} (h5 : 0 ≤ s) (h6 : s < 64) (h7 : 9223372036854775808 ≤ x * 2 ^ s.toNat ∧ x * 2 ^ s.toNat < 18446744073709551616) (hV : V = x * 18446744073709551616 + t) (ht : 0 ≤ t ∧ t < 18446744073709551616) :
    57896044618658097711785492504343953926634992332820282019728792003956564819968 ≤ V * 2 ^ (128 + s).toNat ∧ V * 2 ^ (128 + s).toNat < 115792089237316195423570985008687907853269984665640564039457584007913129639936 := by
  obtain ⟨g1, g2⟩ := nought_T h5 h6 h7
  have e : (2 : Int) ^ (128 + s).toNat = 340282366920938463463374607431768211456 * 2 ^ s.toNat := by
    rw [show (128 + s).toNat = 128 + s.toNat by omega, Int.pow_add]; rfl
  rw [e]
  generalize (2 : Int) ^ s.toNat = T at *
  have e1 : V * (340282366920938463463374607431768211456 * T) = x * T * 6277101735386680763835789423207666416102355444464034512896 + t * T * 340282366920938463463374607431768211456 := by rw [hV]; grind
  have e2 : t * T ≤ 18446744073709551615 * T := Int.mul_le_mul_of_nonneg_right (by omega) (by omega)
  have e3 : 0 ≤ t * T := Int.mul_nonneg ht.1 (by omega)
  rw [e1]
  generalize t * T = A at *
  generalize x * T = B at *
  omega

theorem nought_3 {V x t s : Int} (h5 : 0 ≤ s) (h6 : s < 64) (h7 : 9223372036854775808 ≤ x * 2 ^ s.toNat ∧ x * 2 ^ s.toNat < 18446744073709551616) (hV : V = x * 1 + t) (ht : 0 ≤ t ∧ t < 1) :
    57896044618658097711785492504343953926634992332820282019728792003956564819968 ≤ V * 2 ^ (192 + s).toNat ∧ V * 2 ^ (192 + s).toNat < 115792089237316195423570985008687907853269984665640564039457584007913129639936 := by
  obtain ⟨g1, g2⟩ := nought_T h5 h6 h7
  have e : (2 : Int) ^ (192 + s).toNat = 6277101735386680763835789423207666416102355444464034512896 * 2 ^ s.toNat := by
    rw [show (192 + s).toNat = 192 + s.toNat by omega, Int.pow_add]; rfl
  rw [e]
  generalize (2 : Int) ^ s.toNat = T at *
  have e1 : V * (6277101735386680763835789423207666416102355444464034512896 * T) = x * T * 6277101735386680763835789423207666416102355444464034512896 + t * T * 6277101735386680763835789423207666416102355444464034512896 := by rw [hV]; grind
  have e2 : t * T ≤ 0 * T := Int.mul_le_mul_of_nonneg_right (by omega) (by omega)
  have e3 : 0 ≤ t * T := Int.mul_nonneg ht.1 (by omega)
  rw [e1]
  generalize t * T = A at *
  generalize x * T = B at *
  omega

theorem nought_val {x0 x1 x2 x3 s : Int} (hx : Lim x0 x1 x2 x3) {init : List Limb} {x : Limb} (hp : init ++ [x] <+: limbsDown hx) (h3 : ∀ p ∈ init, p.1.2 = 0) (h5 : 0 ≤ s) (h6 : s < 64)
    (h7 : Hid (9223372036854775808 ≤ x.1.2 * 2 ^ s.toNat ∧ x.1.2 * 2 ^ s.toNat < 18446744073709551616)) :
    Hid (57896044618658097711785492504343953926634992332820282019728792003956564819968 ≤ val x0 x1 x2 x3 * 2 ^ (64 * (init.length : Int) + s).toNat ∧ val x0 x1 x2 x3 * 2 ^ (64 * (init.length : Int) + s).toNat < 115792089237316195423570985008687907853269984665640564039457584007913129639936) := by
  have h7 := h7.out
  unfold Hid
  obtain ⟨t, ht⟩ := hp
  unfold limbsDown at ht
  unfold Lim at hx
  match init, h3, ht with
  | [], h3, ht =>
    simp at ht
    obtain ⟨rfl, -⟩ := ht
    exact nought_0 (t := x0 + x1 * 18446744073709551616 + x2 * 340282366920938463463374607431768211456) h5 h6 h7 (by unfold val; simp only [limb]; omega) ⟨by omega, by omega⟩
  | [a], h3, ht =>
    simp at ht h3
    obtain ⟨rfl, rfl, -⟩ := ht
    simp only [limb] at h3
    exact nought_1 (t := x0 + x1 * 18446744073709551616) h5 h6 h7 (by unfold val; simp only [limb]; omega) ⟨by omega, by omega⟩
  | [a, b], h3, ht =>
    simp at ht h3
    obtain ⟨rfl, rfl, rfl, -⟩ := ht
    simp only [limb] at h3
    exact nought_2 (t := x0) h5 h6 h7 (by unfold val; simp only [limb]; omega) ⟨by omega, by omega⟩
  | [a, b, c], h3, ht =>
    simp at ht h3
    obtain ⟨rfl, rfl, rfl, rfl, -⟩ := ht
    simp only [limb] at h3
    exact nought_3 (t := 0) h5 h6 h7 (by unfold val; simp only [limb]; omega) ⟨by omega, by omega⟩
  | a :: b :: c :: d :: r, h3, ht =>
    have := congrArg List.length ht
    simp at this

set_option maxRecDepth 100000 in
set_option maxHeartbeats 4000000 in
theorem noughts_any (x0 x1 x2 x3 : Int) (hx : Lim x0 x1 x2 x3) (hpos : 0 < val x0 x1 x2 x3) (w : World) :
    Calls Try.prog 119 #[.agg #[.int .u64 x0, .int .u64 x1, .int .u64 x2, .int .u64 x3]] w fun e w' => ∃ k : Int, e = .returned (.int .i64 k) ∧ 0 ≤ k ∧ k < 256 ∧ Hid (57896044618658097711785492504343953926634992332820282019728792003956564819968 ≤ val x0 x1 x2 x3 * 2 ^ k.toNat ∧ val x0 x1 x2 x3 * 2 ^ k.toNat < 115792089237316195423570985008687907853269984665640564039457584007913129639936) ∧ Below w.heap.size w w' := by
  refine (callsIn_wide (n := 8)).1 ?_
  have hfn : ∀ f, Fence.wide.fn f := fun _ => trivial
  refine callsIn_of_wp_marks Try.func119 rfl trivial ?_ rfl
  simp only [Try.ntmps119, List.size_toArray, List.length_cons, List.length_nil, Nat.reduceAdd, Nat.reduceSub, Array.replicate_succ, Array.replicate_zero, List.push_toArray, List.append_toArray, List.nil_append, List.cons_append]
  gi_wp2_with (gi_at_call 117; refine (callsIn_wide.2 (down_any _ _ _ _ _)).mono ?_; rintro e w' ⟨rfl, rfl⟩)
  refine wpIn_rangeFunc_ownF rfl (by omega) (gf := 126) (lb := #[.pointer (some ⟨w.heap.size + 1 + 1, 0, none⟩)]) rfl trivial (enters_of Try.func126 (by kernel_rfl) rfl)
    (down_stops 7 (by omega) (w.heap.size + 1 + 1) hx 69 _ (by (repeat (first | (with_reducible exact al_at (by simp [pad_size])) | (with_reducible refine Eq.trans (dr_blk _ _) ?_) | (with_reducible refine Eq.trans (al_old (by first | omega | (simp [pad_size]; done) | (simp [pad_size]; omega))) ?_) | (with_reducible refine Eq.trans (pad_block (by first | omega | (simp [pad_size]; done) | (simp [pad_size]; omega)) (by first | omega | (simp [pad_size]; done) | (simp [pad_size]; omega))) ?_) | (with_reducible assumption))))) (fun h k => Eq.trans k h) (fun W l o o' hl h _ _ => ?hkb) (Below.refl _ _) (fun _ => rfl)
    (fun pre W => (W.heap[w.heap.size + 1]? = some (.cells #[.int .i64 (64 * (pre.length : Int))] 3 (0, 0)) ∧ (∀ p ∈ pre, p.1.2 = 0)) ∧ Below w.heap.size w W)
    (fun c pre W => (c = .exit 0 ∧ ∃ (init : List Limb) (x : Limb) (s : Int), pre = init ++ [x] ∧ (∀ p ∈ init, p.1.2 = 0) ∧ init.length < 4 ∧ 0 ≤ s ∧ s < 64 ∧ Hid (9223372036854775808 ≤ x.1.2 * 2 ^ s.toNat ∧ x.1.2 * 2 ^ s.toNat < 18446744073709551616) ∧ W.heap[w.heap.size + 1]? = some (.cells #[.int .i64 (64 * (init.length : Int) + s)] 3 (0, 0))) ∧ Below w.heap.size w W)
    (OwnFrom.and (Own.from (fun s A B row hs hg hr => ⟨block_kept hs.1 hg hr, hs.2⟩) _) (ownFrom_below (Nat.le_refl _) (by simp; omega)))
    (fun c => OwnFrom.and (Own.from (fun s A B row hs hg hr => by obtain ⟨h1, init, x, s, h2, h3, h4, h5, h6, h7, h8⟩ := hs; exact ⟨h1, init, x, s, h2, h3, h4, h5, h6, h7, block_kept h8 hg hr⟩) _) (ownFrom_below (Nat.le_refl _) (by simp; omega)))
    ⟨⟨by show _ = some (Obj.cells #[.int .i64 0] 3 (0, 0)); (repeat (first | (with_reducible exact al_at (by simp [pad_size])) | (with_reducible refine Eq.trans (dr_blk _ _) ?_) | (with_reducible refine Eq.trans (al_old (by first | omega | (simp [pad_size]; done) | (simp [pad_size]; omega))) ?_) | (with_reducible refine Eq.trans (pad_block (by first | omega | (simp [pad_size]; done) | (simp [pad_size]; omega)) (by first | omega | (simp [pad_size]; done) | (simp [pad_size]; omega))) ?_) | (with_reducible assumption))), by simp⟩, by (repeat (first | (with_reducible exact Below.refl _ _) | (with_reducible assumption) | (with_reducible apply bd) | (with_reducible apply ba) | (with_reducible refine bp ?_ (by first | omega | (simp [pad_size]; done) | (simp [pad_size]; omega)) _ _) | (with_reducible refine bs ?_ (by first | omega | (simp [pad_size]; done) | (simp [pad_size]; omega)) _) | (with_reducible refine bt ?_ (by assumption))))⟩
    (fun x => { tmps := #[.agg #[.int .u64 x0, .int .u64 x1, .int .u64 x2, .int .u64 x3], .pointer (some ⟨w.heap.size, 0, none⟩), .int .i64 0, .pointer (some ⟨w.heap.size + 1, 0, none⟩), undef, .int .u64 x.1.2, .agg #[.int .u64 x0, .int .u64 x1, .int .u64 x2, .int .u64 x3], .func (.func 126) #[] #[.pointer (some ⟨w.heap.size + 1 + 1, 0, none⟩)], .int .i64 (x.1.1 : Int), .int .u64 x.1.2, undef, undef, undef, undef, undef, undef, undef], defers := [] }) ?assign ?body ?done ?stop
  case hkb =>
    unfold KpB
    rw [World.putObj_heap_other]
    intro e; simp at hl; omega
  case assign =>
    intro l x W K hK
    gi_wp2
    exact hK
  case body =>
    rintro l pre ⟨⟨i, v⟩, hi, hv⟩ W ⟨⟨hb1, hp⟩, hB⟩ hlen
    obtain ⟨c1, f1⟩ := cells_of_block hb1
    dsimp only at hi hv
    have hmx : Try.prog.follows .mixedOrders = true := by kernel_rfl
    have hb64 : bitLen (0 : Int).toNat = 0 := rfl
    have hl0 : 0 ≤ 64 * (pre.length : Int) := by omega
    have hl1 : 64 * (pre.length : Int) ≤ 192 := by omega
    by_cases hv0 : v = 0
    · subst hv0
      gi_wp2
      gi_region_with_o (gi_at_call 128; refine (CallsIn.inRound l (callsIn_wide.2 (lead64_any 0 (by omega) (by omega) _))).mono ?_; rintro e w' ⟨rfl, rfl⟩; rw [hb64])
      all_goals gi_wp2
      all_goals exact ⟨(KeepsOthers.setCell _ _ _).trans (KeepsOthers.drew _), kp_set (by omega), ⟨by have := block_set (i := 0) (.int .i64 (64 * (pre.length : Int) + 64)) hb1; rw [dr_blk]; simpa [Int.mul_add] using this, fun p hpm => (List.mem_append.1 hpm).elim (hp p) (fun e => by simp at e; subst e; rfl)⟩, (hB.setCell (p := ⟨w.heap.size + 1, 0, none⟩) (by simp) _).drew⟩
    · have hvb : (v != 0) = true := by simpa using hv0
      gi_wp2
      gi_region_with_o (gi_at_call 128; refine (CallsIn.inRound l (callsIn_wide.2 (lead64_pos v (by omega) hv.2 _))).mono ?_; rintro e w' ⟨s, rfl, hs0, hs1, hs2, rfl⟩)
      all_goals gi_wp2
      all_goals exact ⟨(KeepsOthers.setCell _ _ _).trans (KeepsOthers.drew _), ⟨rfl, pre, _, s, rfl, hp, hlen, hs0, hs1, hs2, by have := block_set (i := 0) (.int .i64 (64 * (pre.length : Int) + s)) hb1; rw [dr_blk]; simpa using this⟩, (hB.setCell (p := ⟨w.heap.size + 1, 0, none⟩) (by simp) _).drew⟩
  case done =>
    rintro D ys W hD rfl ⟨⟨hb1, hp⟩, hB⟩ hK
    exfalso
    simp [limbsDown, limb] at hp
    obtain ⟨rfl, rfl, rfl, rfl⟩ := hp
    rw [val0] at hpos; omega
  case stop =>
    rintro D c pre W hD hpre ⟨⟨rfl, init, x, s, rfl, h3, h4, h5, h6, h7, h8⟩, hB⟩ hK
    obtain ⟨c1, f1⟩ := cells_of_block h8
    gi_wp2
    refine ⟨by simp, .inl ⟨_, _, rfl, run_takeDeferred hK, ?_⟩⟩
    refine ⟨.int .i64 (64 * (init.length : Int) + s), ?_, _, rfl, by omega, by omega, nought_val hx hpre h3 h5 h6 h7, hB.trans (belowK_b (w := w) (Nat.le_refl _) W D _ _ (by simp at hD; omega) hK rfl rfl)⟩
    simp [results, Try.results119, go_sem]
end Go.Proofs.Ytmfnfnegnfpkiaa
