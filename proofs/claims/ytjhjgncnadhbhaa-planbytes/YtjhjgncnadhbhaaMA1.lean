
/- jointurelaw06.of: right coins of any. -/
import Derived.Test.YtjhjgncnadhbhaaC18
import Derived.Test.YtjhjgncnadhbhaaC15
import Derived.Test.YtjhjgncnadhbhaaPL2
import Derived.Deep.CutRange
set_option linter.unusedSimpArgs false
set_option linter.unusedVariables false
set_option maxRecDepth 20000
namespace Go.Proofs.Ytjhjgncnadhbhaa
open Go.RowKit

/-- A coin whose number is no great one. -/
def capC (x : Cn) : Cn := ⟨x.d, x.a, x.b, x.c, x.e % 288230376151711744⟩
def ofM (l : List Cn) : Nat → Cn := ofP (l.map capC)
theorem ofM_snoc (l : List Cn) (x : Cn) : ofM (l ++ [x]) = putP (ofM l) (x.d % 8).toNat (capC x) := by
  unfold ofM; rw [List.map_append, List.map_cons, List.map_nil, ofP_snoc]; rfl
theorem ofM_nil : ofM [] = zeroP := rfl
/-- Small numbers. -/
def SmallP (z : Nat → Cn) : Prop := ∀ d, d < 8 → LimC (z d) ∧ (z d).d = d ∧ (z d).e < 288230376151711744
theorem SmallP.purse {z : Nat → Cn} (h : SmallP z) : Purse z := fun d hd => ⟨(h d hd).1, (h d hd).2.1⟩
theorem small_put {z : Nat → Cn} (h : SmallP z) (k : Nat) {x : Cn} (hx : LimC x) : SmallP (putP z k (capC x)) := by
  intro d hd
  unfold putP
  by_cases e : d = k
  · simp only [e, if_true]
    unfold LimC Lim at hx ⊢
    simp only [capC, and_true]
    refine ⟨?_, trivial, ?_⟩ <;> omega
  · simp only [e, if_false]; exact h d hd
theorem ofM_small {l : List Cn} (h : ∀ x ∈ l, LimC x) : SmallP (ofM l) := by
  have key : ∀ (n : Nat) (l : List Cn), l.length = n → (∀ x ∈ l, LimC x) → SmallP (ofM l) := by
    intro n
    induction n with
    | zero =>
      intro l hl _
      obtain rfl := List.eq_nil_of_length_eq_zero hl
      intro d hd
      exact ⟨(purse_zero d hd).1, (purse_zero d hd).2, by show (0 : Int) < _; omega⟩
    | succ n ih =>
      intro l hl hx
      have hne : l ≠ [] := fun e => by subst e; simp at hl
      rw [← List.dropLast_concat_getLast hne, ofM_snoc]
      exact small_put (ih l.dropLast (by simp [hl]) fun x h => hx x (List.dropLast_subset _ h)) _ (hx _ (List.getLast_mem hne))
  exact key _ l rfl h
/-- What law06.of makes. -/
def mkL (l : List Cn) : List Cn := if lst (ofM l) 8 = [] then [⟨0, 1, 0, 0, 0⟩] else lst (ofM l) 8
theorem listR_gives (z : Nat → Cn) (hz : Purse z) (w : World) :
    Calls Try.prog 59 #[.agg #[.int .u64 (z 0).a, .int .u64 (z 0).b, .int .u64 (z 0).c, .int .u64 (z 0).e, .int .u64 (z 1).a, .int .u64 (z 1).b, .int .u64 (z 1).c, .int .u64 (z 1).e, .int .u64 (z 2).a, .int .u64 (z 2).b, .int .u64 (z 2).c, .int .u64 (z 2).e, .int .u64 (z 3).a, .int .u64 (z 3).b, .int .u64 (z 3).c, .int .u64 (z 3).e, .int .u64 (z 4).a, .int .u64 (z 4).b, .int .u64 (z 4).c, .int .u64 (z 4).e, .int .u64 (z 5).a, .int .u64 (z 5).b, .int .u64 (z 5).c, .int .u64 (z 5).e, .int .u64 (z 6).a, .int .u64 (z 6).b, .int .u64 (z 6).c, .int .u64 (z 6).e, .int .u64 (z 7).a, .int .u64 (z 7).b, .int .u64 (z 7).c, .int .u64 (z 7).e]] w fun e w' => ∃ a n c, e = .returned (.slice a n c) ∧ n = (lst z 8).length ∧ IsCoins w' (.slice a n c) (lst z 8) ∧ (∀ g, (Value.slice a n c).ownBlock = some g → w.heap.size ≤ g ∧ g < w'.heap.size) ∧ Below w.heap.size w w' := by
  refine (listR_any z hz w).mono ?_
  rintro e w' ⟨v, rfl, ho, hb⟩
  obtain ⟨a, c, rfl⟩ := row_slice ho
  exact ⟨a, _, c, rfl, rfl, own_coins ho (lst8 _), fun g hg => ho.lt g hg, hb⟩
theorem listR_nothing (z : Nat → Cn) (hz : Purse z) (hq : lst z 8 = []) (w : World) :
    Calls Try.prog 59 #[.agg #[.int .u64 (z 0).a, .int .u64 (z 0).b, .int .u64 (z 0).c, .int .u64 (z 0).e, .int .u64 (z 1).a, .int .u64 (z 1).b, .int .u64 (z 1).c, .int .u64 (z 1).e, .int .u64 (z 2).a, .int .u64 (z 2).b, .int .u64 (z 2).c, .int .u64 (z 2).e, .int .u64 (z 3).a, .int .u64 (z 3).b, .int .u64 (z 3).c, .int .u64 (z 3).e, .int .u64 (z 4).a, .int .u64 (z 4).b, .int .u64 (z 4).c, .int .u64 (z 4).e, .int .u64 (z 5).a, .int .u64 (z 5).b, .int .u64 (z 5).c, .int .u64 (z 5).e, .int .u64 (z 6).a, .int .u64 (z 6).b, .int .u64 (z 6).c, .int .u64 (z 6).e, .int .u64 (z 7).a, .int .u64 (z 7).b, .int .u64 (z 7).c, .int .u64 (z 7).e]] w fun e w' => ∃ a c, e = .returned (.slice a 0 c) ∧ Below w.heap.size w w' := by
  refine (listR_gives z hz w).mono ?_
  rintro e w' ⟨a, n, c, rfl, hn, -, -, hb⟩
  rw [hq] at hn
  subst hn
  exact ⟨a, c, rfl, hb⟩
set_option maxRecDepth 100000 in
set_option maxHeartbeats 16000000 in
theorem of6_some (a : Option Addr) (cap : Nat) (l : List Cn) (w : World) (hlen : l.length ≤ 1048576) (hall : ∀ i x, l[i]? = some x → ∃ blk off, a = some ⟨blk, off, none⟩ ∧ blk < w.heap.size ∧ CnAt w blk (off + i * 5) x) (hwf : ∀ x ∈ l, CnWf x) :
    Calls Try.prog 32 #[.slice a l.length cap] w fun e w' => ∃ v, e = .returned v ∧ IsCoins w' v (mkL l) ∧ (∀ g, v.ownBlock = some g → w.heap.size ≤ g ∧ g < w'.heap.size) ∧ Below w.heap.size w w' := by
  have hpad := pads
  go_enter Try.func32, Try.ntmps32
  go_wp2
  go_loopw [4] (fun i wr => ∃ (k m : Nat) (g : Nat → Obj) (dr : Nat) (z : Nat → Cn), k ≤ l.length ∧ i = .int .i64 k ∧ Hid (z = ofM (l.take k)) ∧ w.heap.size + 1 ≤ m ∧ wr = pad (w.alloc (.cells #[.int .u64 (z 0).a, .int .u64 (z 0).b, .int .u64 (z 0).c, .int .u64 (z 0).e, .int .u64 (z 1).a, .int .u64 (z 1).b, .int .u64 (z 1).c, .int .u64 (z 1).e, .int .u64 (z 2).a, .int .u64 (z 2).b, .int .u64 (z 2).c, .int .u64 (z 2).e, .int .u64 (z 3).a, .int .u64 (z 3).b, .int .u64 (z 3).c, .int .u64 (z 3).e, .int .u64 (z 4).a, .int .u64 (z 4).b, .int .u64 (z 4).c, .int .u64 (z 4).e, .int .u64 (z 5).a, .int .u64 (z 5).b, .int .u64 (z 5).c, .int .u64 (z 5).e, .int .u64 (z 6).a, .int .u64 (z 6).b, .int .u64 (z 6).c, .int .u64 (z 6).e, .int .u64 (z 7).a, .int .u64 (z 7).b, .int .u64 (z 7).c, .int .u64 (z 7).e] 96)) m g dr) (fun i _ => l.length - (intOf i).toNat)
  case atStart =>
    obtain ⟨m, g, dr, hm, e⟩ := pad_of (Below.refl _ (w.alloc (.cells #[.int .u64 0, .int .u64 0, .int .u64 0, .int .u64 0, .int .u64 0, .int .u64 0, .int .u64 0, .int .u64 0, .int .u64 0, .int .u64 0, .int .u64 0, .int .u64 0, .int .u64 0, .int .u64 0, .int .u64 0, .int .u64 0, .int .u64 0, .int .u64 0, .int .u64 0, .int .u64 0, .int .u64 0, .int .u64 0, .int .u64 0, .int .u64 0, .int .u64 0, .int .u64 0, .int .u64 0, .int .u64 0, .int .u64 0, .int .u64 0, .int .u64 0, .int .u64 0] 96)))
    refine ⟨0, m, g, dr, zeroP, Nat.zero_le _, rfl, rfl, by simpa using hm, ?_⟩
    simp only [zeroP_a]
    exact e
  case round =>
    obtain ⟨k, m, g, dr, z, hk, rfl, hz, hm, rfl⟩ := hrel
    have st := sz1 (n := w.heap.size) (m := m) hm
    by_cases hkl : k < l.length
    · obtain ⟨blk, off, rfl, hlt, h0, h1, h2, h3, h4⟩ := hall k l[k] (by simp [hkl])
      obtain ⟨⟨hd0, hd1⟩, hlim⟩ := hwf l[k] (List.getElem_mem hkl)
      have htk : Hid (ofM (l.take (k + 1)) = putP (ofM (l.take k)) (l[k].d % 8).toNat (capC l[k])) := by
        unfold Hid; rw [List.take_succ_eq_append_getElem hkl, ofM_snoc]
      have hlm : blk < m := by omega
      have hgn : ¬ blk = w.heap.size := by omega
      have hgl : blk < w.heap.size + 1 := by omega
      generalize l[k] = x at *
      have hem : x.e.tmod 288230376151711744 = x.e % 288230376151711744 := Int.tmod_eq_emod_of_nonneg hlim.2.2.2.1
      obtain ⟨j, hj⟩ : ∃ j : Nat, Hid (x.d % 8 = j) := ⟨(x.d % 8).toNat, by unfold Hid; omega⟩
      have hj8 : j < 8 := by have := hj.out; omega
      have hjm : x.d.tmod 8 = (j : Int) := by rw [Int.tmod_eq_emod_of_nonneg hd0, hj.out]
      obtain ⟨kk, hkk⟩ : ∃ kk : Nat, Hid (kk = k + 1) := ⟨_, rfl⟩
      have hn : Hid (∀ z', z' = putP z j (capC x) → z' = ofM (l.take kk)) := by
        intro z' e'; rw [e', hkk.out, htk.out, hz.out, hj.out]; rfl
      clear htk hall hwf
      rcases (show j = 0 ∨ j = 1 ∨ j = 2 ∨ j = 3 ∨ j = 4 ∨ j = 5 ∨ j = 6 ∨ j = 7 by omega) with rfl | rfl | rfl | rfl | rfl | rfl | rfl | rfl
      all_goals
        clear hj8 hj
        go_wp2
        go_region
        all_goals go_wp2
        all_goals go_roundw
        case rel =>
          have e := hkk.out
          refine ⟨kk, m, g, dr + 1, _, by omega, by rw [e]; go_num, hn.out _ rfl, hm, ?_⟩
          simp [putP, capC]
        case measure => (simp [intOf] <;> omega)
    · have hk' : k = l.length := by omega
      subst hk'
      rw [List.take_length] at hz
      have hp : Purse z := by rw [hz.out]; exact (ofM_small (fun x hx => (hwf x hx).2)).purse
      have hL : Hid (∀ X, _) := fun X => listR_gives z hp X
      have hmk : Hid (mkL l = if lst z 8 = [] then [⟨0, 1, 0, 0, 0⟩] else lst z 8) := by unfold Hid mkL; rw [← hz.out]
      clear hz hp hwf hall
      go_upto_region 6 with fail
      go_cut [5] from 45 to 46 (fun s5 wx => ∃ (a' : Option Addr) (n c : Nat), s5 = .slice a' n c ∧ Hid (n = (lst z 8).length) ∧ Hid (IsCoins wx (.slice a' n c) (lst z 8)) ∧ Hid (∀ g, (Value.slice a' n c).ownBlock = some g → w.heap.size ≤ g ∧ g < wx.heap.size) ∧ Below w.heap.size w wx)
      case first =>
        go_wp2_with (first | (refine wpList_load_row rfl 96 _ rfl w.heap.size rfl 96 #[.int .u64 (z 0).a, .int .u64 (z 0).b, .int .u64 (z 0).c, .int .u64 (z 0).e, .int .u64 (z 1).a, .int .u64 (z 1).b, .int .u64 (z 1).c, .int .u64 (z 1).e, .int .u64 (z 2).a, .int .u64 (z 2).b, .int .u64 (z 2).c, .int .u64 (z 2).e, .int .u64 (z 3).a, .int .u64 (z 3).b, .int .u64 (z 3).c, .int .u64 (z 3).e, .int .u64 (z 4).a, .int .u64 (z 4).b, .int .u64 (z 4).c, .int .u64 (z 4).e, .int .u64 (z 5).a, .int .u64 (z 5).b, .int .u64 (z 5).c, .int .u64 (z 5).e, .int .u64 (z 6).a, .int .u64 (z 6).b, .int .u64 (z 6).c, .int .u64 (z 6).e, .int .u64 (z 7).a, .int .u64 (z 7).b, .int .u64 (z 7).c, .int .u64 (z 7).e] (0, 0) _ (by (repeat (first | (with_reducible exact al_at (by simp [pad_size])) | (with_reducible refine Eq.trans (dr_blk _ _) ?_) | (with_reducible refine Eq.trans (al_old (by first | omega | (simp [pad_size]; done) | (simp [pad_size]; omega))) ?_) | (with_reducible refine Eq.trans (pad_block (by first | omega | (simp [pad_size]; done) | (simp [pad_size]; omega)) (by first | omega | (simp [pad_size]; done) | (simp [pad_size]; omega))) ?_) | (with_reducible assumption)))) Try.underlying96 rfl (by kernel_rfl) ?_) | (go_at_call 59; refine (hL.out _).mono ?_; rintro e w1 ⟨av, n, cv, rfl, hn, hI, hfr, hb⟩; replace hn : Hid (n = (lst z 8).length) := hn; replace hI : Hid (IsCoins w1 (.slice av n cv) (lst z 8)) := hI; replace hfr : Hid _ := hfr))
        go_meet
        refine ⟨_, _, _, rfl, hn, hI, fun g hg => ?_, bt (by (repeat (first | (with_reducible exact Below.refl _ _) | (with_reducible assumption) | (with_reducible apply bd) | (with_reducible apply ba) | (with_reducible refine bp ?_ (by first | omega | (simp [pad_size]; done) | (simp [pad_size]; omega)) _ _) | (with_reducible refine bs ?_ (by first | omega | (simp [pad_size]; done) | (simp [pad_size]; omega)) _) | (with_reducible refine bt ?_ (by assumption))))) hb⟩
        have h1 := hfr.out g hg
        simp [pad_size] at h1
        omega
      case rest =>
        obtain ⟨av, n, cv, rfl, hn, hI, hfr, hb0⟩ := hcut
        by_cases hn0 : n = 0
        · subst hn0
          have hq : lst z 8 = [] := List.eq_nil_of_length_eq_zero hn.out.symm
          rw [if_pos hq] at hmk
          clear hn hI hfr hq
          go_wp2
          go_ret
          refine ⟨_, rfl, ?_, ?_, ba hb0 _⟩
          · rw [hmk.out]
            exact block_coins (l := [⟨0, 1, 0, 0, 0⟩]) (al_at rfl) rfl (by simp) (by simp)
          · intro g hg
            injection hg with hg
            subst hg
            have := hb0.size
            simp; omega
        · have hq : ¬ lst z 8 = [] := fun e => hn0 (by rw [hn.out, e]; rfl)
          rw [if_neg hq] at hmk
          have hn1 : ((n : Int) == 0) = false := beq_eq_false_iff_ne.2 (by omega)
          have hn2 : ¬ (n : Int) = 0 := by omega
          clear hn hq hn0
          go_wp2
          go_ret
          exact ⟨_, rfl, by rw [hmk.out]; exact hI.out, hfr.out, hb0⟩
theorem cn_ats {W : World} {a : Option Addr} {n c : Nat} {l : List Cn} (h : IsCoins W (.slice a n c) l) : ∀ i x, l[i]? = some x → ∃ blk off, a = some ⟨blk, off, none⟩ ∧ blk < W.heap.size ∧ CnAt W blk (off + i * 5) x := by
  rcases h with ⟨rfl, -⟩ | ⟨blk, off, cap, ev, hne, _, hbl, hall⟩
  · intro i x hi; simp at hi
  · simp at ev
    obtain ⟨rfl, rfl, rfl⟩ := ev
    exact fun i x hi => ⟨blk, off, rfl, hbl, hall i x hi⟩
theorem of6_any {v : Value} {l : List Cn} (w : World) (h : IsCoins w v l) (hwf : ∀ x ∈ l, CnWf x) :
    Calls Try.prog 32 #[v] w fun e w' => ∃ v, e = .returned v ∧ IsCoins w' v (mkL l) ∧ (∀ g, v.ownBlock = some g → w.heap.size ≤ g ∧ g < w'.heap.size) ∧ Below w.heap.size w w' := by
  have hlen : l.length ≤ 1048576 := by
    rcases h with ⟨rfl, -⟩ | ⟨_, _, _, _, _, h, _⟩
    · simp
    · exact h
  rcases h with ⟨rfl, a, cap, rfl⟩ | ⟨blk, off, cap, rfl, h1, h2, h3, h4⟩
  · exact of6_some a cap [] w (by simp) (fun i x hi => by simp at hi) (fun x hx => by simp at hx)
  · exact of6_some _ cap l w hlen (cn_ats (.inr ⟨blk, off, cap, rfl, h1, h2, h3, h4⟩)) hwf
theorem SmallP.vl {z : Nat → Cn} (h : SmallP z) {d : Nat} (hd : d < 8) : vl (z d) < 1809251394333065553493296640760748560207343510400633813116524750123642650624 := by
  obtain ⟨h1, -, h3⟩ := h d hd
  unfold LimC Lim at h1
  unfold Go.Proofs.Ytjhjgncnadhbhaa.vl val
  omega
/-- What law06.of makes may be, is something, and no great numbers. -/
theorem mkL_facts {l : List Cn} (h : ∀ x ∈ l, LimC x) : (∀ x ∈ mkL l, CnWf x) ∧ someB (mkL l) = true ∧ ∀ d : Nat, d < 8 → vl (amt (mkL l) d) < 1809251394333065553493296640760748560207343510400633813116524750123642650624 := by
  have hs := ofM_small h
  unfold mkL
  by_cases hq : lst (ofM l) 8 = []
  · rw [if_pos hq]
    refine ⟨fun x hx => ?_, rfl, fun d hd => ?_⟩
    · rw [List.mem_singleton] at hx; subst hx; exact ⟨by simp, by unfold Lim; simp⟩
    · by_cases e : d = 0
      · subst e; show val 1 0 0 0 < _; rw [val_of]; omega
      · have e2 : amt [⟨0, 1, 0, 0, 0⟩] (d : Int) = ⟨d, 0, 0, 0, 0⟩ := by
          rw [amt_cons_ne (by show ¬ (0 : Int) = (d : Int); omega)]; rfl
        rw [e2]; show val 0 0 0 0 < _; rw [val0]; omega
  · rw [if_neg hq]
    refine ⟨lst_wf hs.purse, ?_, fun d hd => ?_⟩
    · unfold someB
      have h1 := right_eq (lst_right hs.purse 8 (Nat.le_refl _)) (lst_wf hs.purse)
      cases e : lst (ofM l) 8 with
      | nil => exact absurd e hq
      | cons a b => rw [e] at h1; rw [h1]; rfl
    · rw [amt_full hs.purse hd]; exact hs.vl hd
end Go.Proofs.Ytjhjgncnadhbhaa
