
/- Several texts, one behind the other: OS, C16, BK1, BK2, G1, G2, G3, G4, G5, G7. -/
import Derived.Test.YtjhjgncnadhbhaaQB3
import Derived.Test.YtjhjgncnadhbhaaC7
import Derived.Test.YtjhjgncnadhbhaaC15
import Derived.Laws.IdiomStrings
import Derived.Laws.AppendOwn
import Derived.Deep.RegionHeld2
import Derived.BigQuiet
import Derived.Deep.QuietTactic
import Derived.Laws.AppendOwnNone
/- The program's store as a bundle: what is in it, what was when each part began; its calls over that. (For the layers over it.) -/
set_option linter.unusedSimpArgs false
set_option linter.unusedVariables false
set_option maxRecDepth 20000
namespace Go.Proofs.Ytjhjgncnadhbhaa
open Go.RowKit

theorem begs_cons (a b : Int) (x p : List Int) : begs (a :: x) (b :: p) = (decide (a = b) && begs x p) := by
  by_cases h1 : a = b
  · subst h1; simp [begs]
  · simp [begs, h1]
theorem begs_ge : ∀ (p k : List Int), begs k p = true → 0 ≤ cmpB k p
  | [], [], _ => by simp [cmpB]
  | [], _ :: _, _ => by simp [cmpB]
  | b :: p, [], h => by simp [begs] at h
  | b :: p, a :: k, h => by
    rw [begs_cons] at h
    simp at h
    obtain ⟨rfl, h⟩ := h
    have := begs_ge p k h
    simp [cmpB, this]
theorem begs_past : ∀ (p x y : List Int), 0 ≤ cmpB x p → begs x p = false → cmpB x y < 0 → begs y p = false
  | [], x, y, _, h, _ => by simp [begs] at h
  | b :: p, [], y, h, _, _ => by simp [cmpB] at h
  | b :: p, a :: x, [], _, _, h => by simp [cmpB] at h
  | b :: p, a :: x, c :: y, h1, h2, h3 => by
    rw [begs_cons] at h2 ⊢
    simp only [cmpB] at h1 h3
    by_cases hab : a < b
    · rw [if_pos hab] at h1; omega
    · by_cases hba : b < a
      · by_cases hac : a < c
        · simp [show ¬ c = b by omega]
        · by_cases hca : c < a
          · rw [if_neg hac, if_pos hca] at h3; omega
          · simp [show ¬ c = b by omega]
      · obtain rfl : a = b := by omega
        rw [if_neg hab, if_neg hba] at h1
        simp at h2
        by_cases hac : a < c
        · simp [show ¬ c = a by omega]
        · by_cases hca : c < a
          · rw [if_neg hac, if_pos hca] at h3; omega
          · obtain rfl : a = c := by omega
            rw [if_neg hac, if_neg hca] at h3
            simp [begs_past p x y h1 h2 h3]
theorem run_filter {p : List Int} : ∀ r : List Rec, Srt r → (∀ x ∈ r, 0 ≤ cmpB x.k p) → r.takeWhile (fun x => begs x.k p) = r.filter (fun x => begs x.k p)
  | [], _, _ => rfl
  | x :: r, hs, h => by
    obtain ⟨h1, h2⟩ := srt_tail hs
    cases hb : begs x.k p with
    | true =>
      rw [List.takeWhile_cons_of_pos (by simpa using hb), List.filter_cons_of_pos (by simpa using hb), run_filter r h1 (fun y hy => h y (by simp [hy]))]
    | false =>
      rw [List.takeWhile_cons_of_neg (by simp [hb]), List.filter_cons_of_neg (by simp [hb]), eq_comm, List.filter_eq_nil_iff]
      intro y hy
      rw [begs_past p x.k y.k (h x (by simp)) hb (h2 y hy)]
      simp
/-- The keys that begin so. -/
def keysS (L : List (List Int × List Int)) (p : List Int) : List (List Int) := (L.filter (fun x => begs x.1 p)).map (·.1)
theorem keysS_cont (r : List Rec) (p : List Int) : (r.filter (fun x => begs x.k p)).map (·.k) = keysS (cont r) p := by
  unfold keysS cont
  rw [List.filter_map, List.map_map]
  rfl
theorem runS_keys {r : List Rec} {p : List Int} {i : Nat} {f : Bool} (hs : Srt r) (h : FindS r p i f) : runS (r.drop i) p = keysS (cont r) p := by
  rw [← keysS_cont]
  unfold runS
  rw [run_filter (r.drop i) (hs.sublist (List.drop_sublist _ _)) h.hi']
  conv => rhs; rw [← List.take_append_drop i r]
  have e : (r.take i).filter (fun x => begs x.k p) = [] := by
    rw [List.filter_eq_nil_iff]
    intro x hx hb
    have := begs_ge p x.k (by simpa using hb)
    have := h.lo' x hx
    omega
  rw [List.filter_append, e, List.nil_append]
theorem keysS_srt {L : List (List Int × List Int)} (h : SrtC L) (p : List Int) : (keysS L p).Pairwise (fun x y => cmpB x y < 0) := by
  unfold keysS
  rw [List.pairwise_map]
  exact h.sublist List.filter_sublist
theorem Own.isB {W : World} {g : Nat} {v : Value} {q : List Int} (h : Own W g v q) (hl : q.length ≤ 1048576) : IsBytes W v q := by
  obtain ⟨rfl, hb⟩ := h
  refine .inr ⟨g, 0, q.length, rfl, by omega, (Array.getElem?_eq_some_iff.1 hb).1, fun i x hi => ?_⟩
  rw [(cells_of_block hb).1]; simp [encB, hi]
theorem Src.nil {W W' : World} {u : Value} (h : Src W u []) : Src W' u [] := by
  rcases h with h | ⟨ad, cap, e, -⟩
  · exact .inl h
  · exact .inr ⟨ad, cap, e, by simp⟩
theorem Src.fr2 {W W' : World} {A A' : Nat → Prop} {u : Value} {q : List Int} (h : Src W u q) (hf : Fr W W' A A') (ho : q = [] ∨ ∀ g, u.ownBlock = some g → ¬ A g) : Src W' u q := by
  rcases ho with rfl | ho
  · exact h.nil
  · exact h.fr hf ho
section
variable {W : World} {s base : Nat} {A : Nat → Prop} {vp vj vb : Value} {r : List Rec} {j : List Was} {b : List Nat}
end
theorem put_len {l : List (List Int × List Int)} (h : SrtC l) (k v : List Int) : (putS l k v).length ≤ l.length + 1 := by
  obtain ⟨a, c, ha, hc, he⟩ := split_srt h k
  rcases he with ⟨-, e2⟩ | ⟨u, -, e2⟩
  · rw [e2, put_new v ha hc]; simp; omega
  · rw [e2, put_mid u v ha hc]; simp
theorem drop_len {l : List (List Int × List Int)} (h : SrtC l) (k : List Int) : (dropS l k).length ≤ l.length := by
  obtain ⟨a, c, ha, hc, he⟩ := split_srt h k
  rcases he with ⟨-, e2⟩ | ⟨u, -, e2⟩
  · rw [e2, drop_new ha hc]; omega
  · rw [e2, drop_mid u ha hc]; simp
theorem srt_dropS {l : List (List Int × List Int)} (h : SrtC l) (k : List Int) : SrtC (dropS l k) := by
  obtain ⟨a, c, ha, hc, he⟩ := split_srt h k
  rcases he with ⟨-, e2⟩ | ⟨u, -, e2⟩
  · rw [e2, drop_new ha hc, ← e2]; exact h
  · rw [e2, drop_mid u ha hc]
    rw [e2] at h
    exact h.sublist (List.Sublist.append (List.Sublist.refl _) (List.sublist_cons_self _ _))
theorem cont_srt {r : List Rec} (h : SrtC (cont r)) : Srt r := by
  unfold SrtC cont at h
  rw [List.pairwise_map] at h
  exact h
theorem cont_len (r : List Rec) : (cont r).length = r.length := by simp [cont]
section
variable {W : World} {s base : Nat} {A : Nat → Prop} {L : List (List Int × List Int)} {ds : List (List (List Int × List Int))} {n : Nat}
theorem snoc_of {b : List Nat} {k : Nat} (h : b.length = k + 1) : ∃ c m, b = c ++ [m] := by
  have hne : b ≠ [] := by intro e; subst e; simp at h
  exact ⟨b.dropLast, b.getLast hne, (List.dropLast_concat_getLast hne).symm⟩
end
/-- A list of keys that can be read. -/
def Kst (W : World) (v : Value) (K : List (List Int)) : Prop := (∃ a c, v = .slice a K.length c) ∧ ∀ (i : Nat) (hi : i < K.length), ∃ g cap a c, v = .slice (some ⟨g, 0, none⟩) K.length cap ∧ g < W.heap.size ∧ W.cell? ⟨g, i, none⟩ = some (.slice a K[i].length c) ∧ IsBytes W (.slice a K[i].length c) K[i]
theorem Kst.below {W W' : World} {v : Value} {K : List (List Int)} (h : Kst W v K) (hb : Below W.heap.size W W') : Kst W' v K := by
  refine ⟨h.1, fun i hi => ?_⟩
  obtain ⟨g, cap, a, c, e, h1, h2, h3⟩ := h.2 i hi
  exact ⟨g, cap, a, c, e, Nat.lt_of_lt_of_le h1 hb.size, (hb.cell (p := ⟨g, i, none⟩) h1).trans h2, h3.below hb⟩
theorem kst_of {W : World} {base : Nat} {v : Value} {ks : List (Value × List Int)} (h : W.ownsRow base 42 1 v ks.length (ks.map (·.1))) (hb : ∀ x ∈ ks, IsBytes W x.1 x.2) : Kst W v (ks.map (·.2)) := by
  refine ⟨by rw [List.length_map]; exact row_slice h, fun i hi => ?_⟩
  rw [List.length_map] at hi
  rcases h.2 with ⟨_, h0⟩ | ⟨g, cap, cur, rfl, h1, h2, h3⟩
  · omega
  · have hc := World.ownsRow.cellAt h i (by omega)
    rw [List.getElem?_map, List.getElem?_eq_getElem hi] at hc
    have hx := hb ks[i] (List.getElem_mem hi)
    obtain ⟨a, c, e⟩ := hx.slice
    have e2 : (ks.map (·.2))[i]'(by rw [List.length_map]; exact hi) = ks[i].2 := by simp
    refine ⟨g, cap, a, c, by rw [List.length_map], (Array.getElem?_eq_some_iff.1 h2).1, ?_, ?_⟩
    · rw [e2, ← e]; exact hc
    · rw [e2, ← e]; exact hx
section
variable {W : World} {s base : Nat} {A : Nat → Prop} {L : List (List Int × List Int)} {ds : List (List (List Int × List Int))} {n : Nat} {u : Value} {k p : List Int}
end
theorem keysS_all (L : List (List Int × List Int)) : (keysS L []).length = L.length := by
  unfold keysS
  rw [List.filter_eq_self.2 (fun x _ => by simp [begs]), List.length_map]
end Go.Proofs.Ytjhjgncnadhbhaa

/- Coins that are answered, as rows of their own. -/
namespace Go.Proofs.Ytjhjgncnadhbhaa
open Go.RowKit

theorem grown_below {W W' : World} (hb : Below W.heap.size W W') : W.grownBy W' none := ⟨hb.os, hb.tape, hb.output, hb.size, fun k hk _ => hb.block k hk⟩
theorem own_below {W W' : World} {base : Nat} {e : TypeId} {size : Nat} {v : Value} {n : Nat} {xs : List Value} (h : W.ownsRow base e size v n xs) (hb : Below W.heap.size W W') : W'.ownsRow base e size v n xs :=
  h.kept (grown_below hb) (by cases hv : v.ownBlock <;> simp)
theorem own_ne {W : World} {b b' : Nat} {e e' : TypeId} {s s' : Nat} {v v' : Value} {n n' : Nat} {xs xs' : List Value} (h : W.ownsRow b e s v n xs) (h' : W.ownsRow b' e' s' v' n' xs') (hne : e ≠ e') : v.ownBlock = none ∨ v.ownBlock ≠ v'.ownBlock := by
  rcases h.2 with ⟨rfl, _⟩ | ⟨g, cap, cur, rfl, _, hg, _⟩
  · exact .inl rfl
  · rcases h'.2 with ⟨rfl, _⟩ | ⟨g', cap', cur', rfl, _, hg', _⟩
    · exact .inr (by simp [Value.ownBlock])
    · refine .inr (fun ee => ?_)
      have : g = g' := by simpa [Value.ownBlock] using ee
      subst this
      rw [hg] at hg'
      simp at hg'
      exact hne hg'.2
theorem own_slice {W : World} {base : Nat} {e : TypeId} {size : Nat} {v : Value} {k : Nat} {xs : List Value} (h : W.ownsRow base e size v k xs) : v.oneCell' = true := by
  rcases h.2 with ⟨rfl, rfl⟩ | ⟨g, cap, _, rfl, _⟩ <;> rfl
theorem not_rowC {W : World} {B : Nat} {c : Array Value} {t e : TypeId} (h : W.heap[B]? = some (.cells c t (0, 0))) (hte : t ≠ e) {base size k : Nat} {v : Value} {xs : List Value} (hr : W.ownsRow base e size v k xs) : some B ≠ v.ownBlock := by
  rcases hr.2 with ⟨rfl, _⟩ | ⟨g, cap, cur, rfl, _, hgb, _⟩
  · simp [Value.ownBlock]
  · intro e'
    obtain rfl : B = g := by simpa [Value.ownBlock] using e'
    have := h.symm.trans hgb
    simp at this
    exact hte this.2
theorem row_sliceC {W : World} {base : Nat} {e : TypeId} {size : Nat} {v : Value} {k : Nat} {xs : List Value} (h : W.ownsRow base e size v k xs) : ∃ a cap, v = .slice a k cap := by
  rcases h.2 with ⟨rfl, rfl⟩ | ⟨g, cap, _, rfl, _⟩
  · exact ⟨_, _, rfl⟩
  · exact ⟨_, _, rfl⟩
theorem lst_same {s z : Nat → Cn} (hz : Purse z) (h : ∀ d, d < 8 → LimC (s d) ∧ (s d).d = d ∧ vl (s d) = vl (z d)) : lst s 8 = lst z 8 :=
  lst_congr 8 (fun d hd => (cn_one (h d hd).1 (h d hd).2.1 (h d hd).2.2).trans (cn_one (hz d hd).1 (hz d hd).2 rfl).symm)
theorem nil_coins (W : World) : IsCoins W (.slice none 0 0) (lst zeroP 8) := .inl ⟨lst_zero 8, none, 0, rfl⟩

theorem restC_own {va : Value} {z : Nat → Cn} (hz : Purse z) (w : World) (hA : IsCoins w va (lst z 8)) :
    Calls Try.prog 42 #[va, .slice none 0 0] w fun e w' => ∃ u, e = .returned u ∧ w'.ownsRow w.heap.size 66 5 u (lst z 8).length (cellsL (lst z 8)) ∧ Below w.heap.size w w' := by
  refine (coinsRest_any w hA (nil_coins w) (amt_lim hz) (amt_lim purse_zero)).mono ?_
  rintro e w' ⟨s, v, rfl, hs, hown, hb⟩
  refine ⟨v, rfl, ?_, hb⟩
  rw [← lst_same (s := s) hz (fun d hd => by have := hs d hd; have hl := vl_lo hz hd; rw [amt_full hz hd, amt_full purse_zero hd, vl_zero] at this; refine ⟨this.1, this.2.1, this.2.2.trans ?_⟩; unfold restI; split <;> omega)]
  exact hown
set_option maxHeartbeats 2000000 in
theorem addC_own {va : Value} {z : Nat → Cn} (hz : Purse z) (w : World) (hA : IsCoins w va (lst z 8)) :
    Calls Try.prog 67 #[va, .slice none 0 0] w fun e w' => ∃ u, e = .returned (.tuple #[u, .int .i64 0]) ∧ w'.ownsRow w.heap.size 66 5 u (lst z 8).length (cellsL (lst z 8)) ∧ Below w.heap.size w w' := by
  have hof : ∀ (x0 x1 x2 x3 y0 y1 y2 y3 : Int) (W : World), Lim x0 x1 x2 x3 → Lim y0 y1 y2 y3 →
      Below (w.alloc (.cells #[.func (.func 88) #[] #[]] 108)).heap.size (w.alloc (.cells #[.func (.func 88) #[] #[]] 108)) W →
      Calls Try.prog 88 (#[.agg #[.int .u64 x0, .int .u64 x1, .int .u64 x2, .int .u64 x3], .agg #[.int .u64 y0, .int .u64 y1, .int .u64 y2, .int .u64 y3]] ++ #[]) W fun e w' =>
        ∃ z0 z1 z2 z3 c : Int, e = .returned (.tuple #[.agg #[.int .u64 z0, .int .u64 z1, .int .u64 z2, .int .u64 z3], .int .i64 c]) ∧ Lim z0 z1 z2 z3 ∧ AddS (val x0 x1 x2 x3) (val y0 y1 y2 y3) (val z0 z1 z2 z3) c ∧ Below W.heap.size W w' :=
    fun x0 x1 x2 x3 y0 y1 y2 y3 W hx hy _ => add_any x0 x1 x2 x3 y0 y1 y2 y3 hx hy W
  have hB := nil_coins w
  go_enter Try.func67, Try.ntmps67
  go_wp2_with (first
    | (go_at_call 68; refine (ofEachM_any _ _ rfl).mono ?_; rintro e w1 ⟨rfl, rfl⟩)
    | (go_at_call 89; refine (ofEach_any 88 #[] AddS w.heap.size _ (hA.below (by (repeat (first | (with_reducible exact Below.refl _ _) | (with_reducible assumption) | (with_reducible apply bd) | (with_reducible apply ba) | (with_reducible refine bp ?_ (by first | omega | (simp [pad_size]; done) | (simp [pad_size]; omega)) _ _) | (with_reducible refine bs ?_ (by first | omega | (simp [pad_size]; done) | (simp [pad_size]; omega)) _) | (with_reducible refine bt ?_ (by assumption)))))) (hB.below (by (repeat (first | (with_reducible exact Below.refl _ _) | (with_reducible assumption) | (with_reducible apply bd) | (with_reducible apply ba) | (with_reducible refine bp ?_ (by first | omega | (simp [pad_size]; done) | (simp [pad_size]; omega)) _ _) | (with_reducible refine bs ?_ (by first | omega | (simp [pad_size]; done) | (simp [pad_size]; omega)) _) | (with_reducible refine bt ?_ (by assumption)))))) (amt_lim hz) (amt_lim purse_zero) (by (repeat (first | (with_reducible exact al_at (by simp [pad_size])) | (with_reducible refine Eq.trans (dr_blk _ _) ?_) | (with_reducible refine Eq.trans (al_old (by first | omega | (simp [pad_size]; done) | (simp [pad_size]; omega))) ?_) | (with_reducible refine Eq.trans (pad_block (by first | omega | (simp [pad_size]; done) | (simp [pad_size]; omega)) (by first | omega | (simp [pad_size]; done) | (simp [pad_size]; omega))) ?_) | (with_reducible assumption)))) (enters_of Try.func88 (by kernel_rfl) rfl) hof).mono ?_; clear hof; rintro e w1 (⟨s, v, rfl, hs, hown, hb⟩ | ⟨kk, c, z0, hk, hc, hS, rfl, hb⟩)))
  · go_ret2
    refine ⟨v, rfl, ?_, bt (by (repeat (first | (with_reducible exact Below.refl _ _) | (with_reducible assumption) | (with_reducible apply bd) | (with_reducible apply ba) | (with_reducible refine bp ?_ (by first | omega | (simp [pad_size]; done) | (simp [pad_size]; omega)) _ _) | (with_reducible refine bs ?_ (by first | omega | (simp [pad_size]; done) | (simp [pad_size]; omega)) _) | (with_reducible refine bt ?_ (by assumption))))) hb⟩
    rw [← lst_same (s := s) hz (fun d hd => by
      have := hs d hd; have hl := vl_lo hz hd; rw [amt_full hz hd, amt_full purse_zero hd, vl_zero] at this
      refine ⟨this.1, this.2.1, ?_⟩
      rcases this.2.2 with ⟨-, -, e⟩ | ⟨-, e, -⟩ <;> omega)]
    exact row_base hown (by simp)
  · exfalso
    have hl := vl_lo hz hk
    rw [amt_full hz hk, amt_full purse_zero hk, vl_zero] at hS
    rcases hS with ⟨-, e, -⟩ | ⟨e, -⟩ <;> omega
end Go.Proofs.Ytjhjgncnadhbhaa

/- bank: which key holds what, what a place has: plain facts. -/
namespace Go.Proofs.Ytjhjgncnadhbhaa
open Go.RowKit

theorem mem_put {L : List (List Int × List Int)} {k v : List Int} {x : List Int × List Int} : x ∈ putS L k v ↔ x = (k, v) ∨ (x.1 ≠ k ∧ x ∈ L) := by
  unfold putS
  rw [List.mem_append, List.mem_cons, List.mem_filter, List.mem_filter]
  have h0 : cmpB x.1 k = 0 ↔ x.1 = k := ⟨cmp_eq0 _ _, fun h => by rw [h, cmp_self]⟩
  constructor
  · rintro (⟨h1, h2⟩ | h | ⟨h1, h2⟩)
    · simp at h2; exact .inr ⟨fun e => by have := h0.2 e; omega, h1⟩
    · exact .inl h
    · simp at h2; exact .inr ⟨fun e => by have := h0.2 e; omega, h1⟩
  · rintro (h | ⟨h1, h2⟩)
    · exact .inr (.inl h)
    · rcases Int.lt_trichotomy (cmpB x.1 k) 0 with hc | hc | hc
      · exact .inl ⟨h2, by simpa using hc⟩
      · exact absurd (h0.1 hc) h1
      · exact .inr (.inr ⟨h2, by simpa using hc⟩)
theorem mem_drop {L : List (List Int × List Int)} {k : List Int} {x : List Int × List Int} : x ∈ dropS L k ↔ x.1 ≠ k ∧ x ∈ L := by
  unfold dropS
  rw [List.mem_append, List.mem_filter, List.mem_filter]
  have h0 : cmpB x.1 k = 0 ↔ x.1 = k := ⟨cmp_eq0 _ _, fun h => by rw [h, cmp_self]⟩
  constructor
  · rintro (⟨h1, h2⟩ | ⟨h1, h2⟩)
    · simp at h2; exact ⟨fun e => by have := h0.2 e; omega, h1⟩
    · simp at h2; exact ⟨fun e => by have := h0.2 e; omega, h1⟩
  · rintro ⟨h1, h2⟩
    rcases Int.lt_trichotomy (cmpB x.1 k) 0 with hc | hc | hc
    · exact .inl ⟨h2, by simpa using hc⟩
    · exact absurd (h0.1 hc) h1
    · exact .inr ⟨h2, by simpa using hc⟩
theorem get_of {L : List (List Int × List Int)} (hs : SrtC L) {k v : List Int} (h : (k, v) ∈ L) : getS L k = some v := by
  obtain ⟨a, c, ha, hc, ⟨e1, e2⟩ | ⟨u, e1, e2⟩⟩ := split_srt hs k
  · exfalso
    rw [e2] at h
    rcases List.mem_append.1 h with h | h
    · have := ha _ h; simp only [cmp_self] at this; omega
    · have := hc _ h; simp only [cmp_self] at this; omega
  · rw [e2] at h
    rcases List.mem_append.1 h with h | h
    · have := ha _ h; simp only [cmp_self] at this; omega
    · rcases List.mem_cons.1 h with h | h
      · rw [e1]; injection h with h1 h2; rw [h2]
      · have := hc _ h; simp only [cmp_self] at this; omega
theorem get_mem {L : List (List Int × List Int)} {k v : List Int} (h : getS L k = some v) : (k, v) ∈ L := by
  unfold getS at h
  obtain ⟨x, hx, rfl⟩ := Option.map_eq_some_iff.1 h
  have h1 := List.find?_some hx
  have h2 := List.mem_of_find?_eq_some hx
  have e : x.1 = k := cmp_eq0 _ _ (by simpa using h1)
  rw [← e]
  exact h2
theorem srt_ext : ∀ (l m : List (List Int)), l.Pairwise (fun x y => cmpB x y < 0) → m.Pairwise (fun x y => cmpB x y < 0) → (∀ x, x ∈ l ↔ x ∈ m) → l = m
  | [], [], _, _, _ => rfl
  | [], b :: m, _, _, h => absurd ((h b).2 (by simp)) (by simp)
  | a :: l, [], _, _, h => absurd ((h a).1 (by simp)) (by simp)
  | a :: l, b :: m, hl, hm, h => by
    obtain ⟨h1, h2⟩ := List.pairwise_cons.1 hl
    obtain ⟨h3, h4⟩ := List.pairwise_cons.1 hm
    have hab : a = b := by
      rcases List.mem_cons.1 ((h a).1 (by simp)) with e | e
      · exact e
      · rcases List.mem_cons.1 ((h b).2 (by simp)) with e' | e'
        · exact e'.symm
        · have q1 := h3 a e
          have q2 := h1 b e'
          have q3 := cmp_flip a b
          omega
    subst hab
    rw [srt_ext l m h2 h4 fun x => ?_]
    constructor
    · intro hx
      rcases List.mem_cons.1 ((h x).1 (by simp [hx])) with e | e
      · subst e; have := h1 x hx; rw [cmp_self] at this; omega
      · exact e
    · intro hx
      rcases List.mem_cons.1 ((h x).2 (by simp [hx])) with e | e
      · subst e; have := h3 x hx; rw [cmp_self] at this; omega
      · exact e
theorem cmp_pre : ∀ (a x y : List Int), cmpB (a ++ x) (a ++ y) = cmpB x y
  | [], _, _ => rfl
  | c :: a, x, y => by simp [cmpB, cmp_pre a x y]

def hasB : List Int := [98, 97, 110, 107, 46, 104, 97, 115, 46]
def allK : List Int := [98, 97, 110, 107, 46, 97, 108, 108, 46]
/-- A place's bytes: an address's, by its number; the supply's (256). -/
def plc (p : Nat) : List Int := if p < 256 then hasB ++ [(p : Int)] else allK
def ky (p d : Nat) : List Int := plc p ++ [(d : Int)]
theorem plc_len (p : Nat) : (plc p).length = 9 ∨ (plc p).length = 10 := by unfold plc hasB allK; split <;> simp
theorem ky_len (p d : Nat) : (ky p d).length = (plc p).length + 1 := by simp [ky]
theorem byte_app {a b : List Int} (ha : Byte a) (hb : Byte b) : Byte (a ++ b) := fun x hx => by
  rcases List.mem_append.1 hx with h | h
  · exact ha x h
  · exact hb x h
theorem byte_one {x : Int} (h : 0 ≤ x ∧ x ≤ 255) : Byte [x] := fun y hy => by rw [List.mem_singleton] at hy; subst hy; exact h
theorem byte_has : Byte hasB := by unfold Byte hasB; decide
theorem byte_allK : Byte allK := by unfold Byte allK; decide
theorem byte_plc (p : Nat) : Byte (plc p) := by
  unfold plc; split
  · exact byte_app byte_has (byte_one (by omega))
  · exact byte_allK
theorem byte_ky (p : Nat) {d : Nat} (hd : d ≤ 255) : Byte (ky p d) := byte_app (byte_plc p) (byte_one (by omega))
theorem begs_ky {p q : Nat} (d : Nat) (hp : p ≤ 256) (hq : q ≤ 256) : begs (ky p d) (plc q) = decide (p = q) := by
  unfold begs ky plc
  by_cases h1 : p < 256 <;> by_cases h2 : q < 256
  · simp only [if_pos h1, if_pos h2, hasB]
    by_cases e : p = q
    · subst e; simp
    · have e' : ¬ (p : Int) = (q : Int) := by omega
      simp [e, e']
  · have e : ¬ p = q := by omega
    simp [if_pos h1, if_neg h2, hasB, allK, e]
  · have e : ¬ p = q := by omega
    simp [if_neg h1, if_pos h2, hasB, allK, e]
  · have e : p = q := by omega
    subst e
    simp [if_neg h1, allK]
theorem ky_inj {p q d e : Nat} (hp : p ≤ 256) (hq : q ≤ 256) : ky p d = ky q e ↔ p = q ∧ d = e := by
  constructor
  · intro h
    have h1 := begs_ky d hp hp
    have h2 := begs_ky e hq hp
    rw [h, h2] at h1
    simp at h1
    subst h1
    refine ⟨rfl, ?_⟩
    have h3 := List.append_cancel_left (show plc q ++ [(d : Int)] = plc q ++ [(e : Int)] from h)
    simp at h3
    omega
  · rintro ⟨rfl, rfl⟩; rfl
theorem ky_lt (p : Nat) {d e : Nat} (h : d < e) : cmpB (ky p d) (ky p e) < 0 := by
  unfold ky
  rw [cmp_pre]
  have : (d : Int) < (e : Int) := by omega
  simp [cmpB, this]
/-- The places of a purse at which there is something. -/
def dsL (z : Nat → Cn) (k : Nat) : List Nat := (List.range k).filter (fun d => decide (vl (z d) ≠ 0))
theorem dsL_succ (z : Nat → Cn) (k : Nat) : dsL z (k + 1) = dsL z k ++ (if vl (z k) = 0 then [] else [k]) := by
  unfold dsL
  rw [List.range_succ, List.filter_append]
  congr 1
  by_cases h : vl (z k) = 0 <;> simp [h]
theorem dsL_mem {z : Nat → Cn} {k d : Nat} : d ∈ dsL z k ↔ d < k ∧ vl (z d) ≠ 0 := by simp [dsL]
theorem eq4_vl {x : Cn} (h : LimC x) : eq4 x.a x.b x.c x.e 0 0 0 0 = decide (vl x = 0) := by
  have h0 := val_zero h
  by_cases e : vl x = 0
  · rw [decide_eq_true e]; exact eq4_true.2 (h0.1 e)
  · rw [decide_eq_false e]
    cases hq : eq4 x.a x.b x.c x.e 0 0 0 0
    · rfl
    · exact absurd (h0.2 (eq4_true.1 hq)) e
theorem oneL_vl {x : Cn} (h : LimC x) : oneL x = if vl x = 0 then [] else [x] := by
  unfold oneL
  rw [eq4_vl h]
  by_cases e : vl x = 0 <;> simp [e]
theorem lst_dsL {z : Nat → Cn} (hz : Purse z) : ∀ k, k ≤ 8 → lst z k = (dsL z k).map z
  | 0, _ => rfl
  | k + 1, hk => by
    simp only [lst]
    rw [lst_dsL hz k (by omega), dsL_succ, oneL_vl (hz k (by omega)).1, List.map_append]
    congr 1
    by_cases e : vl (z k) = 0 <;> simp [e]
theorem dsL_srt (z : Nat → Cn) (k p : Nat) : ((dsL z k).map (ky p)).Pairwise (fun x y => cmpB x y < 0) := by
  rw [List.pairwise_map]
  refine (List.Pairwise.sublist List.filter_sublist ?_ : (dsL z k).Pairwise _)
  exact List.pairwise_lt_range.imp (fun h => ky_lt p h)

/-- What a store holds where each place has a purse. -/
structure BkL (L : List (List Int × List Int)) (b : Nat → Nat → Cn) : Prop where
  srt : SrtC L
  pur : ∀ p, p ≤ 256 → Purse (b p)
  mem : ∀ x, x ∈ L ↔ ∃ p d, p ≤ 256 ∧ d < 8 ∧ vl (b p d) ≠ 0 ∧ x = (ky p d, byL (vl (b p d)) 32)
theorem BkL.new : BkL [] (fun _ => zeroP) := ⟨List.Pairwise.nil, fun _ _ => purse_zero, fun x => ⟨fun h => by simp at h, fun ⟨p, d, _, _, h, _⟩ => absurd (vl_zero d) h⟩⟩
theorem BkL.congr {L : List (List Int × List Int)} {b c : Nat → Nat → Cn} (h : BkL L b) (e : ∀ p d, p ≤ 256 → d < 8 → b p d = c p d) : BkL L c := by
  refine ⟨h.srt, fun p hp d hd => by rw [← e p d hp hd]; exact h.pur p hp d hd, fun x => (h.mem x).trans ?_⟩
  constructor
  · rintro ⟨p, d, h1, h2, h3⟩; exact ⟨p, d, h1, h2, by rw [← e p d h1 h2]; exact h3⟩
  · rintro ⟨p, d, h1, h2, h3⟩; exact ⟨p, d, h1, h2, by rw [e p d h1 h2]; exact h3⟩
theorem BkL.keys {L : List (List Int × List Int)} {b : Nat → Nat → Cn} (h : BkL L b) {p : Nat} (hp : p ≤ 256) : keysS L (plc p) = (dsL (b p) 8).map (ky p) := by
  refine srt_ext _ _ (keysS_srt h.srt _) (dsL_srt _ _ _) fun x => ?_
  unfold keysS
  rw [List.mem_map, List.mem_map]
  constructor
  · rintro ⟨y, hy, rfl⟩
    obtain ⟨h1, h2⟩ := List.mem_filter.1 hy
    obtain ⟨q, d, hq, hd, hv, rfl⟩ := (h.mem y).1 h1
    simp only at h2 ⊢
    rw [begs_ky d hq hp] at h2
    obtain rfl : q = p := by simpa using h2
    exact ⟨d, dsL_mem.2 ⟨hd, hv⟩, rfl⟩
  · rintro ⟨d, hd, rfl⟩
    obtain ⟨h1, h2⟩ := dsL_mem.1 hd
    refine ⟨(ky p d, byL (vl (b p d)) 32), List.mem_filter.2 ⟨(h.mem _).2 ⟨p, d, hp, h1, h2, rfl⟩, ?_⟩, rfl⟩
    simp only
    rw [begs_ky d hp hp]
    simp
theorem BkL.get_yes {L : List (List Int × List Int)} {b : Nat → Nat → Cn} (h : BkL L b) {p d : Nat} (hp : p ≤ 256) (hd : d < 8) (hv : vl (b p d) ≠ 0) : getS L (ky p d) = some (byL (vl (b p d)) 32) :=
  get_of h.srt ((h.mem _).2 ⟨p, d, hp, hd, hv, rfl⟩)
theorem BkL.get_no {L : List (List Int × List Int)} {b : Nat → Nat → Cn} (h : BkL L b) {p d : Nat} (hp : p ≤ 256) (hv : d < 8 → vl (b p d) = 0) : getS L (ky p d) = none := by
  cases hg : getS L (ky p d) with
  | none => rfl
  | some v =>
    obtain ⟨q, e, hq, he, hne, hx⟩ := (h.mem _).1 (get_mem hg)
    injection hx with h1 h2
    obtain ⟨rfl, rfl⟩ := (ky_inj hp hq).1 h1
    exact absurd (hv he) hne
def upB (b : Nat → Nat → Cn) (p d : Nat) (x : Cn) : Nat → Nat → Cn := fun q e => if q = p ∧ e = d then x else b q e
theorem upB_at (b : Nat → Nat → Cn) (p d : Nat) (x : Cn) : upB b p d x p d = x := if_pos ⟨rfl, rfl⟩
theorem upB_off {b : Nat → Nat → Cn} {p d : Nat} {x : Cn} {q e : Nat} (h : ¬ (q = p ∧ e = d)) : upB b p d x q e = b q e := if_neg h
theorem BkL.up {L : List (List Int × List Int)} {b : Nat → Nat → Cn} (h : BkL L b) {p d : Nat} (hp : p ≤ 256) (hd : d < 8) {x : Cn} (hx : LimC x) (hxd : x.d = d) : BkL (if vl x = 0 then dropS L (ky p d) else putS L (ky p d) (byL (vl x) 32)) (upB b p d x) := by
  have hpur : ∀ q, q ≤ 256 → Purse (upB b p d x q) := fun q hq e he => by
    by_cases hc : q = p ∧ e = d
    · obtain ⟨rfl, rfl⟩ := hc; rw [upB_at]; exact ⟨hx, hxd⟩
    · rw [upB_off hc]; exact h.pur q hq e he
  by_cases h0 : vl x = 0
  · rw [if_pos h0]
    refine ⟨srt_dropS h.srt _, hpur, fun y => ?_⟩
    rw [mem_drop, h.mem]
    constructor
    · rintro ⟨h1, q, e, hq, he, hv, rfl⟩
      have hc : ¬ (q = p ∧ e = d) := fun hc => h1 ((ky_inj hq hp).2 hc)
      exact ⟨q, e, hq, he, by rw [upB_off hc]; exact hv, by rw [upB_off hc]⟩
    · rintro ⟨q, e, hq, he, hv, rfl⟩
      have hc : ¬ (q = p ∧ e = d) := fun hc => by obtain ⟨rfl, rfl⟩ := hc; rw [upB_at] at hv; exact hv h0
      rw [upB_off hc] at hv ⊢
      exact ⟨fun e2 => hc ((ky_inj hq hp).1 e2), q, e, hq, he, hv, rfl⟩
  · rw [if_neg h0]
    refine ⟨srt_putS h.srt _ _, hpur, fun y => ?_⟩
    rw [mem_put, h.mem]
    constructor
    · rintro (rfl | ⟨h1, q, e, hq, he, hv, rfl⟩)
      · exact ⟨p, d, hp, hd, by rw [upB_at]; exact h0, by rw [upB_at]⟩
      · have hc : ¬ (q = p ∧ e = d) := fun hc => h1 ((ky_inj hq hp).2 hc)
        exact ⟨q, e, hq, he, by rw [upB_off hc]; exact hv, by rw [upB_off hc]⟩
    · rintro ⟨q, e, hq, he, hv, rfl⟩
      by_cases hc : q = p ∧ e = d
      · obtain ⟨rfl, rfl⟩ := hc
        rw [upB_at]
        exact .inl rfl
      · rw [upB_off hc] at hv ⊢
        exact .inr ⟨fun e2 => hc ((ky_inj hq hp).1 e2), q, e, hq, he, hv, rfl⟩
end Go.Proofs.Ytjhjgncnadhbhaa

/- bank: places, keys, the number at a key. -/
namespace Go.Proofs.Ytjhjgncnadhbhaa
open Go.RowKit

/-- One cell behind the bytes of a row that a conversion of a string made (it bears a mark behind its last cell). -/
theorem run_append_mark {P : Program} (w : World) (t ty e : TypeId) (i : TypeInfo) (ht : P.underlying t = some (.slice e)) (hi : P.info? e = some i) (hz : i.zero = some (.int .u8 0)) (hsz : i.size = 1) (hby : i.bytes = 1)
    (g n cap : Nat) (cur : Array Value) (hg : w.heap[g]? = some (.cells cur e (cur.size, cur.size + 1))) (hcs : cur.size = cap) (hn : n ≤ cap) (hm : n < 100000) (y : Nat) (u : Value) (ha : w.cell? ⟨y, 0, none⟩ = some u) (h1 : u.oneCell' = true) :
    ∃ g' cap' w', (Builtin.append_ #[t, t] ty #[.slice (some ⟨g, 0, none⟩) n cap, .slice (some ⟨y, 0, none⟩) 1 1]).run P w = .ok (.slice (some ⟨g', 0, none⟩) (n + 1) cap') w' ∧ (g' = g ∨ g' = w.heap.size) ∧ g' < w'.heap.size ∧ (∀ j v, (cur.toList.take n ++ [u])[j]? = some v → w'.cell? ⟨g', j, none⟩ = some v) ∧ w.grownBy w' (some g) := by
  have hgl : g < w.heap.size := (Array.getElem?_eq_some_iff.1 hg).1
  have hnews : ∀ j v, ([u] : List Value)[j]? = some v → w.cell? ((⟨y, 0, none⟩ : Addr).add j) = some v := fun j v hj => by
    match j, hj with
    | 0, hj => simp at hj; subst hj; rw [add_cell]; exact ha
    | j + 1, hj => simp at hj
  have htl : (cur.toList.take n).length = n := by rw [List.length_take, Array.length_toList]; omega
  by_cases hroom : n + 1 ≤ cap
  · have hf := run_firstCells_some (P := P) w i.size 1 ⟨y, 0, none⟩ 1 1 [u] (by rw [hsz]; rfl) hnews
    have hnc : n < cur.size := by omega
    have hcell : w.cell? ⟨g, n, none⟩ = some cur[n] := by simp [World.cell?, hg, hnc]
    have hfro : w.frozen? ⟨g, n, none⟩ = false := by simp [World.frozen?, hg]; omega
    have hst : (storeCells ⟨g, n, none⟩ [u] 0).run P w = .ok () (w.setRow g (cur.setIfInBounds n u)) := by
      have e0 : (⟨g, n, none⟩ : Addr).add 0 = ⟨g, n, none⟩ := add_cell 0
      simp only [storeCells, Sem.run_bind, e0]
      rw [run_store P w _ u _ h1, hcell]
      simp [hfro, setCell_eq_setRow w g n cur e _ u hg]
    refine ⟨g, cap, w.setRow g (cur.setIfInBounds n u), ?_, .inl rfl, by simpa [World.setRow] using hgl, fun j v hj => ?_, ⟨rfl, rfl, rfl, by simp [World.setRow], fun k _ hk => setRow_other w g k _ (fun e => hk (by simp [e]))⟩⟩
    · simp only [hsz] at hf
      simp [Builtin.append_, run_underlying ht, sizeOf, typeInfo, hi, hsz, Builtin.lenOf, hroom, hf, Addr.add_lit, hst]
    · rw [cell_of_row _ g j _ e _ (setRow_heap w g cur _ e _ hg), Array.getElem?_setIfInBounds]
      by_cases hj2 : j < n
      · rw [if_neg (by omega)]
        rw [List.getElem?_append_left (by omega), List.getElem?_take_of_lt hj2] at hj
        simpa using hj
      · rw [List.getElem?_append_right (by omega), htl] at hj
        have : j = n := by
          have := (List.getElem?_eq_some_iff.1 hj).1
          simp at this; omega
        subst this
        simp at hj
        subst hj
        rw [if_pos rfl, if_pos hnc]
  · have hold : ∀ j v, (cur.toList.take n)[j]? = some v → w.cell? ((⟨g, 0, none⟩ : Addr).add j) = some v := fun j v hj => by
      have hadd : (⟨g, 0, none⟩ : Addr).add j = ⟨g, j, none⟩ := by unfold Addr.add; split <;> simp_all
      rw [hadd, cell_of_row w g j cur e _ hg]
      rw [List.getElem?_take] at hj
      split at hj
      · simpa using hj
      · cases hj
    have hr := run_append_grow (P := P) w t ty e i _ ht hi hz ⟨g, 0, none⟩ n cap (cur.toList.take n) (by rw [htl, hsz]; omega) hold ⟨y, 0, none⟩ 1 1 [u] (by rw [hsz]; rfl) hnews (by omega) (by omega) (growslice_fits (by omega) (by rw [hby]; omega))
    refine ⟨_, _, _, hr, .inr rfl, by simp, fun j v hj => ?_, ⟨rfl, rfl, rfl, by simp, fun k hk _ => heap_alloc_old w.drew _ hk⟩⟩
    rw [cell_of_row _ w.heap.size j _ e _ (heap_alloc_new w.drew _)]
    rw [Array.getElem?_append_left (by
      have := (List.getElem?_eq_some_iff.1 hj).1
      simpa using this)]
    simpa using hj
theorem wpList_append_mark {P : Program} {w : World} {ops : Array Oper} {rest : List Oper} {o : Oper} {a : Act} {Q : Exit → Act → World → Prop} (hgd : o.guard = none) (s x : Operand) (t : TypeId)
    (ho : o.op = .call { callee := .builtin .append, args := #[s, x], argTypes := #[t, t] })
    (e : TypeId) (i : TypeInfo) (ht : P.underlying t = some (.slice e)) (hi : P.info? e = some i) (hz : i.zero = some (.int .u8 0)) (hsz : i.size = 1) (hby : i.bytes = 1)
    (g n cap : Nat) (cur : Array Value) (hs : a.eval s = .slice (some ⟨g, 0, none⟩) n cap) (hg : w.heap[g]? = some (.cells cur e (cur.size, cur.size + 1))) (hcs : cur.size = cap) (hn : n ≤ cap) (hm : n < 100000) (y : Nat) (u : Value) (hx : a.eval x = .slice (some ⟨y, 0, none⟩) 1 1) (ha : w.cell? ⟨y, 0, none⟩ = some u) (h1 : u.oneCell' = true)
    (h : ∀ g' cap' w', (g' = g ∨ g' = w.heap.size) → g' < w'.heap.size → (∀ j v, (cur.toList.take n ++ [u])[j]? = some v → w'.cell? ⟨g', j, none⟩ = some v) → w.grownBy w' (some g) → wpList P ops Q rest (a.put o.dst (.slice (some ⟨g', 0, none⟩) (n + 1) cap')) w') : wpList P ops Q (o :: rest) a w :=
  wpList_plain hgd fun _ hK => by
    obtain ⟨g', cap', w', hr, h2, h3, h4, h5⟩ := run_append_mark (P := P) w t o.type e i ht hi hz hsz hby g n cap cur hg hcs hn hm y u ha h1
    unfold Oper.wp execOp
    simp only [ho, resolve, invoke, builtin, Sem.run_bind, Sem.run_pure, Result.andThen_ok, List.map_toArray, List.map_cons, List.map_nil, hs, hx, hr]
    exact hK _ _ (h g' cap' w' h2 h3 h4 h5)

/-- A string's bytes. -/
def StrIs (s : ByteArray) (p : List Int) : Prop := s.data.toList = Lib.bytesOf p
theorem StrIs.size {s : ByteArray} {p : List Int} (h : StrIs s p) : s.size = p.length := by
  have : s.data.toList.length = p.length := by rw [h]; simp [Lib.bytesOf]
  rw [Array.length_toList] at this
  exact this
theorem strIs_all : StrIs ⟨#[98, 97, 110, 107, 46, 97, 108, 108, 46]⟩ (plc 256) := by
  unfold StrIs plc allK; rw [if_neg (by omega)]; decide
/-- The bytes of a string as a slice. -/
theorem cv_str {s : ByteArray} {p : List Int} (h : StrIs s p) (hp : Byte p) (w : World) : ∃ cap cur, (convert 9 42 (.string s)).run Try.prog w = .ok (.slice (some ⟨w.heap.size, 0, none⟩) p.length cap) (w.drew.alloc (.cells cur 5 (cur.size, cur.size + 1))) ∧ cur.size = cap ∧ p.length ≤ cap ∧ cur.toList.take p.length = encB p := by
  have h1 := run_bytes_of_string (P := Try.prog) w 9 42 5 s Try.underlying9 Try.underlying42 Try.underlying5
  have hs := h.size
  have hge := grownCap_ge w s.size 0 5
  have hsz : s.data.size = s.size := rfl
  refine ⟨grownCap w s.size 0 5, bytesRow s (grownCap w s.size 0 5), by rw [h1, hs], ?_, by omega, ?_⟩
  · unfold bytesRow
    simp only [Array.size_append, Array.size_map, Array.size_replicate, hsz]
    omega
  · unfold bytesRow
    rw [Array.toList_append, List.take_append_of_le_length (by simp [hsz]; omega), List.take_of_length_le (by simp [hsz]; omega)]
    rw [Array.toList_map, h]
    unfold Lib.bytesOf encB
    rw [List.map_map]
    refine List.map_congr_left fun x hx => ?_
    have := hp x hx
    simp only [Function.comp, UInt8.toNat_ofNat']
    congr 1
    omega
theorem isb_src {W : World} {v : Value} {p : List Int} (h : IsBytes W v p) (hp : p ≠ []) : Src W v p := by
  rcases h with ⟨rfl, -⟩ | ⟨blk, off, cap, e, -, -, hc⟩
  · exact absurd rfl hp
  · exact .inr ⟨_, _, e, fun i x hi => by rw [add_cell]; exact hc i x hi⟩
theorem ky_ne (p d : Nat) : ky p d ≠ [] := by unfold ky; simp
section
variable {W : World} {s base : Nat} {A : Nat → Prop} {L : List (List Int × List Int)} {ds : List (List (List Int × List Int))} {n : Nat} {b : Nat → Nat → Cn}
end
end Go.Proofs.Ytjhjgncnadhbhaa


/- codec's reader: what it has, and its first calls. -/
namespace Go.Proofs.Ytjhjgncnadhbhaa
open Go.RowKit

/-- A reader in block b, of bytes in block D: those that are left, or none (it has a fault). -/
def RdAt (W : World) (b : Nat) (D : Option Nat) : Option (List Int) → Prop
  | none => W.heap[b]? = some (.cells #[.slice none 0 0, .bool true] 88 (0, 0))
  | some p => ∃ v, W.heap[b]? = some (.cells #[v, .bool false] 88 (0, 0)) ∧ Byt W D v p
theorem RdAt.blk {W : World} {b : Nat} {D : Option Nat} {s : Option (List Int)} (h : RdAt W b D s) : ∃ v, W.heap[b]? = some (.cells #[v, .bool s.isNone] 88 (0, 0)) := by
  cases s with
  | none => exact ⟨_, h⟩
  | some p => obtain ⟨v, h, _⟩ := h; exact ⟨v, h⟩
theorem RdAt.lt {W : World} {b : Nat} {D : Option Nat} {s : Option (List Int)} (h : RdAt W b D s) : b < W.heap.size := by
  obtain ⟨v, h⟩ := h.blk; exact (Array.getElem?_eq_some_iff.1 h).1
theorem RdAt.kept {W W' : World} {b : Nat} {D : Option Nat} {s : Option (List Int)} {r : Option Nat} (h : RdAt W b D s) (hg : W.grownBy W' r) (h1 : some b ≠ r) (h2 : D = none ∨ D ≠ r) : RdAt W' b D s := by
  have hl := h.lt
  cases s with
  | none => exact (hg.block b hl h1).trans h
  | some p => obtain ⟨v, h, k⟩ := h; exact ⟨v, (hg.block b hl h1).trans h, k.kept hg h2⟩

set_option maxHeartbeats 1000000 in
theorem rBad_any {W : World} {b : Nat} {D : Option Nat} {s : Option (List Int)} (h : RdAt W b D s) :
    Calls Try.prog 29 #[.pointer (some ⟨b, 0, none⟩)] W fun e w' => e = .returned (.bool s.isNone) ∧ w' = W := by
  obtain ⟨v, h⟩ := h.blk
  obtain ⟨c, f⟩ := cells_of_block h
  go_enter Try.func29, Try.ntmps29
  go_wp2
  go_ret
  exact ⟨rfl, rfl⟩
def leftS : Option (List Int) → Int
  | none => 0
  | some p => p.length
set_option maxHeartbeats 1000000 in
theorem rLeft_any {W : World} {b : Nat} {D : Option Nat} {s : Option (List Int)} (h : RdAt W b D s) :
    Calls Try.prog 30 #[.pointer (some ⟨b, 0, none⟩)] W fun e w' => e = .returned (.int .i64 (leftS s)) ∧ w' = W := by
  cases s with
  | none =>
    go_enter Try.func30, Try.ntmps30
    go_wp2_with (go_at_call 29; refine (rBad_any h).mono ?_; rintro e w' ⟨rfl, rfl⟩)
    go_ret
    exact ⟨rfl, rfl⟩
  | some p =>
    have h' := h
    obtain ⟨v, h, a, cap, rfl, -⟩ := h
    obtain ⟨c, f⟩ := cells_of_block h
    go_enter Try.func30, Try.ntmps30
    go_wp2_with (go_at_call 29; refine (rBad_any h').mono ?_; rintro e w' ⟨rfl, rfl⟩)
    go_ret
    exact ⟨rfl, rfl⟩
def endS : Option (List Int) → Bool
  | some [] => true
  | _ => false
set_option maxHeartbeats 1000000 in
theorem rEnd_any {W : World} {b : Nat} {D : Option Nat} {s : Option (List Int)} (h : RdAt W b D s) :
    Calls Try.prog 27 #[.pointer (some ⟨b, 0, none⟩)] W fun e w' => e = .returned (.bool (endS s)) ∧ w' = W := by
  obtain ⟨bb, hbb⟩ : ∃ bb, s.isNone = bb := ⟨_, rfl⟩
  obtain ⟨n, hn⟩ : ∃ n, leftS s = n := ⟨_, rfl⟩
  have h1 := rBad_any h
  have h2 := rLeft_any h
  rw [hbb] at h1
  rw [hn] at h2
  have hv : endS s = (!bb && (n == 0)) := by
    subst hbb hn
    match s with
    | none => rfl
    | some [] => rfl
    | some (x :: p) => exact (show false = (!false && ((((x :: p).length : Nat) : Int) == 0)) by rw [Bool.not_false, Bool.true_and]; symm; rw [beq_eq_false_iff_ne, List.length_cons]; omega)
  rw [hv]
  clear hv hbb hn
  cases bb
  all_goals
    go_enter Try.func27, Try.ntmps27
    go_wp2_with (first | (go_at_call 29; refine h1.mono ?_; rintro e w' ⟨rfl, rfl⟩) | (go_at_call 30; refine h2.mono ?_; rintro e w' ⟨rfl, rfl⟩))
    go_ret
    exact ⟨by simp, rfl⟩
set_option maxHeartbeats 1000000 in
theorem rFail_any {W : World} {b : Nat} {D : Option Nat} {s : Option (List Int)} (h : RdAt W b D s) :
    Calls Try.prog 51 #[.pointer (some ⟨b, 0, none⟩)] W fun e w' => e = .returned (.tuple #[]) ∧ RdAt w' b D none ∧ W.grownBy w' (some b) := by
  obtain ⟨v, h⟩ := h.blk
  obtain ⟨c, f⟩ := cells_of_block h
  go_enter Try.func51, Try.ntmps51
  go_wp2
  refine bodyPost_end (v := .tuple #[]) (by simp [results, Try.results51]) rfl ⟨rfl, ?_, grown_se (grown_se (grown_ref _ _) _ _) _ _⟩
  show _ = _
  rw [block_set _ (block_set _ h)]; rfl
end Go.Proofs.Ytjhjgncnadhbhaa

/- codec's reader: bytes and numbers. -/
namespace Go.Proofs.Ytjhjgncnadhbhaa
open Go.RowKit

def takeS (s : Option (List Int)) (n : Nat) : List Int × Option (List Int) := match s with
  | none => ([], none)
  | some p => if n ≤ p.length then (p.take n, some (p.drop n)) else ([], none)
theorem byt_nil (W : World) (D : Option Nat) : Byt W D (.slice none 0 0) [] := ⟨none, 0, rfl, Nat.le_refl _, by simp, by simp, .inl rfl⟩

theorem Byt.take {W : World} {D : Option Nat} {n cap : Nat} {a : Option Addr} {p : List Int} (h : Byt W D (.slice a p.length cap) p) (hn : n ≤ p.length) : Byt W D (.slice a n n) (p.take n) := by
  obtain ⟨a', cap', e, h1, h2, h3, h4⟩ := h
  simp at e
  obtain ⟨rfl, rfl⟩ := e
  have hl : (p.take n).length = n := by simp; omega
  refine ⟨a, n, by rw [hl], by rw [hl]; exact Nat.le_refl _, by rw [hl]; omega, fun x hx => h3 x (List.mem_of_mem_take hx), ?_⟩
  rcases h4 with rfl | ⟨d, off, hd, rfl, h5, h6⟩
  · left; simp
  · refine .inr ⟨d, off, hd, rfl, h5, fun i x hi => h6 i x ?_⟩
    have : i < n := by have := (List.getElem?_eq_some_iff.1 hi).1; omega
    rwa [List.getElem?_take_of_lt this] at hi
theorem Byt.drop {W : World} {D : Option Nat} {n cap : Nat} {a : Option Addr} {p : List Int} (h : Byt W D (.slice a p.length cap) p) (hn : n ≤ p.length) : Byt W D (.slice (Option.map (fun x => x.add n) a) (p.length - n) (cap - n)) (p.drop n) := by
  obtain ⟨a', cap', e, h1, h2, h3, h4⟩ := h
  simp at e
  obtain ⟨rfl, rfl⟩ := e
  refine ⟨_, _, by rw [List.length_drop], by simp; omega, by simp; omega, fun x hx => h3 x (List.mem_of_mem_drop hx), ?_⟩
  rcases h4 with rfl | ⟨d, off, hd, rfl, h5, h6⟩
  · left; simp
  · refine .inr ⟨d, off + n, hd, ?_, h5, fun i x hi => ?_⟩
    · simp only [Option.map_some, Option.some.injEq]
      unfold Addr.add; split
      · subst_vars; rfl
      · rfl
    · rw [List.getElem?_drop] at hi
      rw [← h6 _ x hi]; congr 2; omega
theorem Byt.drop0 {W : World} {D : Option Nat} {n : Nat} {a : Option Addr} {p : List Int} (h : Byt W D (.slice a p.length n) p) (hn : n ≤ p.length) : Byt W D (.slice a (p.length - n) 0) (p.drop n) := by
  obtain ⟨a', cap', e, h1, h2, h3, h4⟩ := h
  simp at e
  obtain ⟨rfl, rfl⟩ := e
  have e : p.drop n = [] := by rw [List.drop_eq_nil_iff]; exact h1
  rw [e, show p.length - n = 0 by omega]
  exact ⟨a, 0, rfl, Nat.le_refl _, by simp, by simp, .inl rfl⟩
theorem grown_set0 (W : World) (b : Nat) (v : Value) : W.grownBy (W.setCell ⟨b, 0, none⟩ v) (some b) := grown_se (grown_ref _ _) _ _

set_option maxHeartbeats 2000000 in
theorem rTake_any {W : World} {b : Nat} {D : Option Nat} {s : Option (List Int)} (n : Nat) (hn : n ≤ 1048576) (hD : D ≠ some b) (h : RdAt W b D s) :
    Calls Try.prog 74 #[.pointer (some ⟨b, 0, none⟩), .int .i64 (n : Int)] W fun e w' => ∃ u, e = .returned u ∧ Byt w' D u (takeS s n).1 ∧ RdAt w' b D (takeS s n).2 ∧ W.grownBy w' (some b) := by
  cases s with
  | none =>
    go_enter Try.func74, Try.ntmps74
    go_wp2_with (go_at_call 29; refine (rBad_any h).mono ?_; rintro e w' ⟨rfl, rfl⟩)
    go_ret
    exact ⟨_, rfl, byt_nil _ _, h, grown_ref _ _⟩
  | some p =>
    have h' := h
    obtain ⟨v, h, a, cap, rfl, h1, h2, h3, h4⟩ := h
    obtain ⟨c, f⟩ := cells_of_block h
    by_cases hl : n ≤ p.length
    · have hl1 : ¬ (p.length : Int) < (n : Int) := by omega
      have hl2 : (n : Int) ≤ (p.length : Int) := by omega
      have hl3 : (n : Int) ≤ (cap : Int) := by omega
      have hB : Byt W D (.slice a p.length cap) p := ⟨a, cap, rfl, h1, h2, h3, h4⟩
      rw [takeS, if_pos hl]
      by_cases hcn : cap = n
      · subst hcn
        have hg := grown_set0 W b (.slice a (p.length - cap) 0)
        have hfin : Byt (W.setCell ⟨b, 0, none⟩ (.slice a (p.length - cap) 0)) D (.slice a cap cap) (p.take cap) ∧ RdAt (W.setCell ⟨b, 0, none⟩ (.slice a (p.length - cap) 0)) b D (some (p.drop cap)) :=
          ⟨(hB.take hl).kept hg (.inr hD), _, by rw [block_set _ h]; rfl, (hB.drop0 hl).kept hg (.inr hD)⟩
        rw [show p.length - cap = 0 by omega] at hfin hg
        clear h4 hB
        go_enter Try.func74, Try.ntmps74
        go_wp2_with (go_at_call 29; refine (rBad_any h').mono ?_; rintro e w' ⟨rfl, rfl⟩)
        go_ret
        exact ⟨_, rfl, hfin.1, hfin.2, hg⟩
      · have hg := grown_set0 W b (.slice (Option.map (fun x => x.add n) a) (p.length - n) (cap - n))
        have hfin : Byt (W.setCell ⟨b, 0, none⟩ (.slice (Option.map (fun x => x.add n) a) (p.length - n) (cap - n))) D (.slice a n n) (p.take n) ∧ RdAt (W.setCell ⟨b, 0, none⟩ (.slice (Option.map (fun x => x.add n) a) (p.length - n) (cap - n))) b D (some (p.drop n)) :=
          ⟨(hB.take hl).kept hg (.inr hD), _, by rw [block_set _ h]; rfl, (hB.drop hl).kept hg (.inr hD)⟩
        clear h4 hB
        go_enter Try.func74, Try.ntmps74
        go_wp2_with (go_at_call 29; refine (rBad_any h').mono ?_; rintro e w' ⟨rfl, rfl⟩)
        go_ret
        exact ⟨_, rfl, hfin.1, hfin.2, hg⟩
    · have hl1 : (p.length : Int) < (n : Int) := by omega
      go_enter Try.func74, Try.ntmps74
      go_wp2_with (first | (go_at_call 29; refine (rBad_any h').mono ?_; rintro e w' ⟨rfl, rfl⟩) | (go_at_call 51; refine (rFail_any h').mono ?_; rintro e w1 ⟨rfl, hr, hg⟩))
      go_ret
      rw [takeS, if_neg hl]
      exact ⟨_, rfl, byt_nil _ _, hr, hg⟩

theorem takeS_len (s : Option (List Int)) (n : Nat) : (takeS s n).1.length ≤ n := by
  unfold takeS; split
  · simp
  · split
    · simp; omega
    · simp
theorem p256_le {a b : Nat} (h : a ≤ b) : (256 : Int) ^ a ≤ 256 ^ b := by
  obtain ⟨d, rfl⟩ := Nat.exists_eq_add_of_le h
  rw [Int.pow_add]
  have h1 : (0 : Int) < 256 ^ a := Int.pow_pos (by decide)
  have h2 : (0 : Int) < 256 ^ d := Int.pow_pos (by decide)
  have := Int.mul_le_mul_of_nonneg_left (show (1 : Int) ≤ 256 ^ d by omega) (Int.le_of_lt h1)
  omega
theorem rd_lim8 {q : List Int} (hl : q.length ≤ 8) (hb : ∀ x ∈ q, 0 ≤ x ∧ x ≤ 255) : 0 ≤ rd q ∧ rd q < 18446744073709551616 := by
  have h := rd_nonneg q.length q rfl hb
  have h2 := p256_le hl
  have h3 : (256 : Int) ^ 8 = 18446744073709551616 := by decide
  exact ⟨h.1, by omega⟩

set_option maxHeartbeats 4000000 in
theorem rNumber_any {W : World} {b : Nat} {D : Option Nat} {s : Option (List Int)} (n : Nat) (hn : n ≤ 8) (hD : D ≠ some b) (h : RdAt W b D s) :
    Calls Try.prog 48 #[.pointer (some ⟨b, 0, none⟩), .int .i64 (n : Int)] W fun e w' => e = .returned (.int .u64 (rd (takeS s n).1)) ∧ RdAt w' b D (takeS s n).2 ∧ W.grownBy w' (some b) := by
  have hl := takeS_len s n
  have hT := rTake_any n (by omega) hD h
  generalize (takeS s n).1 = q at *
  generalize (takeS s n).2 = s' at *
  go_enter Try.func48, Try.ntmps48
  go_wp2_with (go_at_call 74; refine hT.mono ?_; rintro e w1 ⟨u, rfl, hB, hr, hg⟩; obtain ⟨a, cap, rfl, h1, h2, h3, h4⟩ := hB)
  have hq8 : (q.length : Int) ≤ 8 := by omega
  go_loop [5, 12] (fun v i => ∃ k : Nat, k ≤ q.length ∧ i = .int .i64 k ∧ v = .int .u64 (rd (q.take k))) (fun _ i => q.length - (intOf i).toNat)
  case atStart => exact ⟨0, by omega, rfl, rfl⟩
  case round =>
    obtain ⟨k, hk, rfl, rfl⟩ := hrel
    by_cases hlt : k < q.length
    · obtain ⟨d, off, hd', rfl, h5, h6⟩ := h4.resolve_left (fun e => by subst e; simp at hlt)
      have hc := h6 k q[k] (by simp [hlt])
      have hx := h3 q[k] (List.getElem_mem hlt)
      have hR := rd_nonneg (q.take k).length (q.take k) rfl (fun x hx => h3 x (List.mem_of_mem_take hx))
      have hR2 : rd (q.take k) < 72057594037927936 := by
        have h2 := p256_le (a := (q.take k).length) (b := 7) (by simp; omega)
        have h3 : (256 : Int) ^ 7 = 72057594037927936 := by decide
        omega
      have hnx : rd (q.take (k + 1)) = rd (q.take k) * 256 + q[k] := by rw [List.take_succ_eq_append_getElem hlt, rd_snoc]
      have hlt' : (k : Int) < (q.length : Int) := by omega
      have hR1 := hR.1
      clear hR h6 h3 h4
      generalize rd (q.take k) = R at *
      generalize hxx : q[k] = x at *
      have hor : bits .or .u64 (R * 256) x = R * 256 + x := by
        have := or_byte (a := R * 256) (b := x) (s := 0) (by omega) (by omega) (by show R * 256 % 256 = 0; omega) hx
        simpa using this
      have hw : IntKind.u64.wrap (R * 256) = R * 256 := by rw [IntKind.wrap_u64]; omega
      have hw2 : IntKind.u64.wrap (R * 256 + x) = R * 256 + x := by rw [IntKind.wrap_u64]; omega
      go_wp2
      all_goals go_round
      case rel => exact ⟨k + 1, by omega, by go_num, by rw [hnx]⟩
      case measure => (simp [intOf]; omega)
    · have e : k = q.length := by omega
      subst e
      go_wp2
      go_ret
      exact ⟨rfl, hr, hg⟩

def Rng (s : Option (List Int)) : Prop := ∀ p, s = some p → ∀ x ∈ p, 0 ≤ x ∧ x ≤ 255
theorem RdAt.rng {W : World} {b : Nat} {D : Option Nat} {s : Option (List Int)} (h : RdAt W b D s) : Rng s := by
  rintro p rfl x hx
  obtain ⟨v, -, a, cap, -, -, -, h3, -⟩ := h
  exact h3 x hx
theorem takeS_rng {s : Option (List Int)} (h : Rng s) (n : Nat) : ∀ x ∈ (takeS s n).1, 0 ≤ x ∧ x ≤ 255 := by
  unfold takeS; split
  · simp
  · rename_i p; split
    · exact fun x hx => h p rfl x (List.mem_of_mem_take hx)
    · simp
theorem takeS_lim {s : Option (List Int)} (h : Rng s) (n : Nat) : 0 ≤ rd (takeS s n).1 ∧ rd (takeS s n).1 < 256 ^ n := by
  have h1 := rd_nonneg _ _ rfl (takeS_rng h n)
  have h2 := p256_le (takeS_len s n)
  exact ⟨h1.1, by omega⟩
def byteS (s : Option (List Int)) : Int × Option (List Int) := (rd (takeS s 1).1, (takeS s 1).2)
theorem byteS_lim {s : Option (List Int)} (h : Rng s) : 0 ≤ (byteS s).1 ∧ (byteS s).1 ≤ 255 := by
  have := takeS_lim h 1
  have e : (256 : Int) ^ 1 = 256 := by decide
  exact ⟨this.1, by show rd _ ≤ 255; omega⟩
set_option maxHeartbeats 1000000 in
theorem rByte_any {W : World} {b : Nat} {D : Option Nat} {s : Option (List Int)} (hD : D ≠ some b) (h : RdAt W b D s) :
    Calls Try.prog 49 #[.pointer (some ⟨b, 0, none⟩)] W fun e w' => e = .returned (.int .u8 (byteS s).1) ∧ RdAt w' b D (byteS s).2 ∧ W.grownBy w' (some b) := by
  have hl := byteS_lim h.rng
  have hT : Calls Try.prog 48 #[.pointer (some ⟨b, 0, none⟩), .int .i64 1] W fun e w' => e = .returned (.int .u64 (byteS s).1) ∧ RdAt w' b D (byteS s).2 ∧ W.grownBy w' (some b) := rNumber_any 1 (by omega) hD h
  generalize (byteS s).1 = x at *
  generalize (byteS s).2 = s' at *
  have hw : IntKind.u8.wrap x = x := by rw [IntKind.wrap_u8]; omega
  go_enter Try.func49, Try.ntmps49
  go_wp2_with (go_at_call 48; refine hT.mono ?_; rintro e w1 ⟨rfl, hr, hg⟩)
  go_ret
  exact ⟨rfl, hr, hg⟩
def numS (s : Option (List Int)) (n : Nat) : Int × Option (List Int) := (rd (takeS s n).1, (takeS s n).2)
set_option maxHeartbeats 1000000 in
theorem rLong_any {W : World} {b : Nat} {D : Option Nat} {s : Option (List Int)} (hD : D ≠ some b) (h : RdAt W b D s) :
    Calls Try.prog 24 #[.pointer (some ⟨b, 0, none⟩)] W fun e w' => e = .returned (.int .u64 (numS s 8).1) ∧ RdAt w' b D (numS s 8).2 ∧ W.grownBy w' (some b) := by
  have hT : Calls Try.prog 48 #[.pointer (some ⟨b, 0, none⟩), .int .i64 8] W fun e w' => e = .returned (.int .u64 (numS s 8).1) ∧ RdAt w' b D (numS s 8).2 ∧ W.grownBy w' (some b) := rNumber_any 8 (by omega) hD h
  generalize (numS s 8).1 = x at *
  generalize (numS s 8).2 = s' at *
  go_enter Try.func24, Try.ntmps24
  go_wp2_with (go_at_call 48; refine hT.mono ?_; rintro e w1 ⟨rfl, hr, hg⟩)
  go_ret
  exact ⟨rfl, hr, hg⟩
def flagS (s : Option (List Int)) : Bool × Option (List Int) := if 1 < (byteS s).1 then (false, none) else ((byteS s).1 == 1, (byteS s).2)
end Go.Proofs.Ytjhjgncnadhbhaa


/- The reference's reader: bytes and numbers. -/
namespace Go.Proofs.Ytjhjgncnadhbhaa
open Go.RowKit

/-- The reference's reader in block b, of bytes in block D: those that are left, or none (it has a fault). -/
def InAt (W : World) (b : Nat) (D : Option Nat) (s : Option (List Int)) : Prop :=
  ∃ v p, ∃ k : Nat, ∃ bad : Bool, W.heap[b]? = some (.cells #[v, .int .i64 (k : Int), .bool bad] 59 (0, 0)) ∧ Byt W D v p ∧ k ≤ p.length ∧ s = if bad then none else some (p.drop k)
theorem InAt.lt {W : World} {b : Nat} {D : Option Nat} {s : Option (List Int)} (h : InAt W b D s) : b < W.heap.size := by
  obtain ⟨v, p, k, bad, h, _⟩ := h; exact (Array.getElem?_eq_some_iff.1 h).1
theorem InAt.kept {W W' : World} {b : Nat} {D : Option Nat} {s : Option (List Int)} {r : Option Nat} (h : InAt W b D s) (hg : W.grownBy W' r) (h1 : some b ≠ r) (h2 : D = none ∨ D ≠ r) : InAt W' b D s := by
  have hl := h.lt
  obtain ⟨v, p, k, bad, h, hB, hk, hs⟩ := h
  exact ⟨v, p, k, bad, (hg.block b hl h1).trans h, hB.kept hg h2, hk, hs⟩
theorem byteS_cons {p : List Int} {k : Nat} (h : k < p.length) : byteS (some (p.drop k)) = (p[k], some (p.drop (k + 1))) := by
  have e : p.drop k = p[k] :: p.drop (k + 1) := List.drop_eq_getElem_cons h
  unfold byteS takeS
  simp only [List.length_drop]
  rw [if_pos (by omega)]
  have e1 : (p.drop k).take 1 = [p[k]] := by rw [e]; rfl
  have e2 : (p.drop k).drop 1 = p.drop (k + 1) := by rw [List.drop_drop]
  simp only [e1, e2]
  simp [rd]
theorem byteS_end {p : List Int} {k : Nat} (h : ¬ k < p.length) : byteS (some (p.drop k)) = (0, none) := by
  unfold byteS takeS
  simp only [List.length_drop]
  rw [if_neg (by omega)]
  rfl

set_option maxHeartbeats 2000000 in
theorem inByte_any {W : World} {b : Nat} {D : Option Nat} {s : Option (List Int)} (hD : D ≠ some b) (h : InAt W b D s) :
    Calls Try.prog 55 #[.pointer (some ⟨b, 0, none⟩)] W fun e w' => e = .returned (.int .u8 (byteS s).1) ∧ InAt w' b D (byteS s).2 ∧ W.grownBy w' (some b) := by
  obtain ⟨v, p, k, bad, hblk, hB, hk, rfl⟩ := h
  have hB' := hB
  obtain ⟨a, cap, rfl, h1, h2, h3, h4⟩ := hB
  obtain ⟨c, f⟩ := cells_of_block hblk
  have c0 := c 0
  have c1 := c 1
  have c2 := c 2
  simp only [List.getElem?_toArray, List.getElem?_cons_zero, List.getElem?_cons_succ] at c0 c1 c2
  clear c
  cases bad with
  | true =>
    go_enter Try.func55, Try.ntmps55
    go_wp2
    go_quiet (fail)
    go_wp2
    go_ret
    have hg : W.grownBy ((W.drewN nq).setCell ⟨b, 2, none⟩ (.bool true)) (some b) := grown_se (grown_dn (grown_ref _ _) _) _ _
    exact ⟨rfl, ⟨_, p, k, true, by rw [block_set (W := W.drewN nq) _ hblk]; rfl, hB'.kept hg (.inr hD), hk, rfl⟩, hg⟩
  | false =>
    by_cases hlt : k < p.length
    · obtain ⟨d, off, hdd, rfl, h5, h6⟩ := h4.resolve_left (fun e => by subst e; simp at hlt)
      have hdb : d ≠ b := fun e => hD (by rw [hdd, e])
      have hdd' : Hid _ := hdd
      clear hdd
      have hc := h6 k p[k] (by simp [hlt])
      have hd : decide ((p.length : Int) ≤ (k : Int)) = false := by rw [decide_eq_false_iff_not]; omega
      have hdn : ¬ (p.length : Int) ≤ (k : Int) := by omega
      have hkl : (k : Int) < (p.length : Int) := by omega
      have hpl : (p.length : Int) ≤ 1048576 := by omega
      simp only [Bool.false_eq_true, if_false]
      rw [byteS_cons hlt]
      have hcD : ∀ (n : Nat), ((W.drewN n).setCell ⟨b, 1, none⟩ (.int .i64 ((k : Int) + 1))).cell? ⟨d, off + k, none⟩ = some (.int .u8 p[k]) := by
        intro n
        rw [World.cell?_of_block (w := W) (a := ⟨d, off + k, none⟩) (Below.heap_setCell (W.drewN n) ⟨b, 1, none⟩ _ d hdb)]
        exact hc
      generalize hxx : p[k] = x at *
      clear h6 h4 h3
      go_enter Try.func55, Try.ntmps55
      go_wp2
      go_quiet (fail)
      revert nq; intro n1
      go_wp2
      go_quiet (fail)
      go_wp2
      go_ret
      have hg : W.grownBy (((W.drewN n1).setCell ⟨b, 1, none⟩ (.int .i64 ((k : Int) + 1))).drewN nq) (some b) := grown_dn (grown_se (grown_dn (grown_ref _ _) _) _ _) _
      exact ⟨rfl, ⟨_, p, k + 1, false, (block_set (W := W.drewN n1) _ hblk).trans (by simp), hB'.kept hg (.inr hD), by omega, rfl⟩, hg⟩
    · have hd : decide ((p.length : Int) ≤ (k : Int)) = true := by rw [decide_eq_true_iff]; omega
      have hdn : (p.length : Int) ≤ (k : Int) := by omega
      simp only [Bool.false_eq_true, if_false]
      rw [byteS_end hlt]
      go_enter Try.func55, Try.ntmps55
      go_wp2
      go_quiet (fail)
      go_wp2
      go_ret
      have hg : W.grownBy ((W.drewN nq).setCell ⟨b, 2, none⟩ (.bool true)) (some b) := grown_se (grown_dn (grown_ref _ _) _) _ _
      exact ⟨rfl, ⟨_, p, k, true, by rw [block_set (W := W.drewN nq) _ hblk]; rfl, hB'.kept hg (.inr hD), hk, rfl⟩, hg⟩

theorem InAt.opn {W : World} {b : Nat} {D : Option Nat} {s : Option (List Int)} (h : InAt W b D s) : ∃ a cap, ∃ p : List Int, ∃ k : Nat, ∃ bad : Bool, W.heap[b]? = some (.cells #[.slice a p.length cap, .int .i64 (k : Int), .bool bad] 59 (0, 0)) ∧ Byt W D (.slice a p.length cap) p ∧ k ≤ p.length ∧ p.length ≤ cap ∧ p.length ≤ 1048576 ∧ (s = if bad then none else some (p.drop k)) ∧ W.cell? ⟨b, 0, none⟩ = some (.slice a p.length cap) ∧ W.cell? ⟨b, 1, none⟩ = some (.int .i64 (k : Int)) ∧ W.cell? ⟨b, 2, none⟩ = some (.bool bad) ∧ (∀ o, W.frozen? ⟨b, o, none⟩ = false) := by
  obtain ⟨v, p, k, bad, hblk, hB, hk, hs⟩ := h
  have hB' := hB
  obtain ⟨a, cap, rfl, h1, h2, h3, h4⟩ := hB
  obtain ⟨c, f⟩ := cells_of_block hblk
  have c0 := c 0
  have c1 := c 1
  have c2 := c 2
  simp only [List.getElem?_toArray, List.getElem?_cons_zero, List.getElem?_cons_succ] at c0 c1 c2
  exact ⟨a, cap, p, k, bad, hblk, hB', hk, h1, h2, hs, c0, c1, c2, f⟩
theorem InAt.dn {W : World} {b : Nat} {D : Option Nat} {s : Option (List Int)} (h : InAt W b D s) (n : Nat) : InAt (W.drewN n) b D s := h.kept (r := none) (grown_dn (grown_ref _ _) n) (by simp) (by cases D <;> simp)
theorem RdAt.dn {W : World} {b : Nat} {D : Option Nat} {s : Option (List Int)} (h : RdAt W b D s) (n : Nat) : RdAt (W.drewN n) b D s := h.kept (r := none) (grown_dn (grown_ref _ _) n) (by simp) (by cases D <;> simp)

set_option maxHeartbeats 1000000 in
theorem inLeft_any {W : World} {b : Nat} {D : Option Nat} {s : Option (List Int)} (h : InAt W b D s) :
    Calls Try.prog 31 #[.pointer (some ⟨b, 0, none⟩)] W fun e w' => e = .returned (.int .i64 (leftS s)) ∧ ∃ n, w' = W.drewN n := by
  obtain ⟨a, cap, p, k, bad, hblk, hB, hk, h1, h2, rfl, c0, c1, c2, f⟩ := h.opn
  cases bad with
  | true =>
    go_enter Try.func31, Try.ntmps31
    go_wp2
    go_ret
    exact ⟨rfl, 0, rfl⟩
  | false =>
    simp only [Bool.false_eq_true, if_false]
    have e : leftS (some (p.drop k)) = (p.length : Int) - (k : Int) := by simp only [leftS, List.length_drop]; omega
    rw [e]
    have hw : IntKind.i64.wrap ((p.length : Int) - (k : Int)) = (p.length : Int) - (k : Int) := by rw [IntKind.wrap_i64]; omega
    go_enter Try.func31, Try.ntmps31
    go_wp2
    go_quiet (fail)
    go_wp2
    go_ret
    exact ⟨rfl, nq, rfl⟩
end Go.Proofs.Ytjhjgncnadhbhaa

/- The reference's reader: truths and long numbers. -/
namespace Go.Proofs.Ytjhjgncnadhbhaa
open Go.RowKit

theorem byteS_none {s : Option (List Int)} (h : (byteS s).2 = none) : (byteS s).1 = 0 := by
  unfold byteS takeS at *
  match s with
  | none => rfl
  | some p =>
    simp only at *
    split at h
    · simp at h
    · rename_i hh; rw [if_neg hh]; rfl

theorem InAt.opnN {W : World} {b : Nat} {D : Option Nat} (h : InAt W b D none) : ∃ a cap, ∃ p : List Int, ∃ k : Nat, W.heap[b]? = some (.cells #[.slice a p.length cap, .int .i64 (k : Int), .bool true] 59 (0, 0)) ∧ Byt W D (.slice a p.length cap) p ∧ k ≤ p.length ∧ W.cell? ⟨b, 0, none⟩ = some (.slice a p.length cap) ∧ W.cell? ⟨b, 1, none⟩ = some (.int .i64 (k : Int)) ∧ W.cell? ⟨b, 2, none⟩ = some (.bool true) ∧ (∀ o, W.frozen? ⟨b, o, none⟩ = false) := by
  obtain ⟨a, cap, p, k, bad, hblk, hB, hk, h1', h2, hss, c0, c1, c2, f⟩ := h.opn
  cases bad with
  | true => exact ⟨a, cap, p, k, hblk, hB, hk, c0, c1, c2, f⟩
  | false => simp at hss
theorem InAt.opnS {W : World} {b : Nat} {D : Option Nat} {s : Option (List Int)} (h : InAt W b D s) (hs : s ≠ none) : ∃ a cap, ∃ p : List Int, ∃ k : Nat, W.heap[b]? = some (.cells #[.slice a p.length cap, .int .i64 (k : Int), .bool false] 59 (0, 0)) ∧ Byt W D (.slice a p.length cap) p ∧ k ≤ p.length ∧ p.length ≤ cap ∧ p.length ≤ 1048576 ∧ Hid (s = some (p.drop k)) ∧ W.cell? ⟨b, 0, none⟩ = some (.slice a p.length cap) ∧ W.cell? ⟨b, 1, none⟩ = some (.int .i64 (k : Int)) ∧ W.cell? ⟨b, 2, none⟩ = some (.bool false) ∧ (∀ o, W.frozen? ⟨b, o, none⟩ = false) := by
  obtain ⟨a, cap, p, k, bad, hblk, hB, hk, h1', h2, hss, c0, c1, c2, f⟩ := h.opn
  cases bad with
  | true => exact absurd hss hs
  | false => exact ⟨a, cap, p, k, hblk, hB, hk, h1', h2, hss, c0, c1, c2, f⟩

theorem byteS_at {q : List Int} {i : Nat} (h : i < q.length) : byteS (some (q.drop i)) = (q[i], some (q.drop (i + 1))) := byteS_cons h
set_option maxHeartbeats 2000000 in
theorem inLong_any {W : World} {b : Nat} {D : Option Nat} {s : Option (List Int)} (n : Nat) (hn : n ≤ 8) (hD : D ≠ some b) (h : InAt W b D s) :
    Calls Try.prog 56 #[.pointer (some ⟨b, 0, none⟩), .int .i64 (n : Int)] W fun e w' => e = .returned (.int .u64 (numS s n).1) ∧ InAt w' b D (numS s n).2 ∧ W.grownBy w' (some b) := by
  have h' := h
  obtain ⟨a, cap, p, k, bad, hblk, hB, hk, h1, h2, rfl, c0, c1, c2, f⟩ := h.opn
  cases bad with
  | true =>
    go_enter Try.func56, Try.ntmps56
    go_wp2
    go_quiet (fail)
    go_wp2
    go_ret
    have hg : W.grownBy ((W.drewN nq).setCell ⟨b, 2, none⟩ (.bool true)) (some b) := grown_se (grown_dn (grown_ref _ _) _) _ _
    exact ⟨rfl, ⟨_, p, k, true, by rw [block_set (W := W.drewN nq) _ hblk]; rfl, hB.kept hg (.inr hD), hk, rfl⟩, hg⟩
  | false =>
    simp only [Bool.false_eq_true, if_false] at h' ⊢
    have hw : IntKind.i64.wrap ((p.length : Int) - (k : Int)) = (p.length : Int) - (k : Int) := by rw [IntKind.wrap_i64]; omega
    have hpk : (k : Int) ≤ (p.length : Int) := by omega
    have hpl : (p.length : Int) ≤ 1048576 := by omega
    obtain ⟨m, hm⟩ : ∃ m : Int, (p.length : Int) - (k : Int) = m := ⟨_, rfl⟩
    by_cases hl : n ≤ (p.drop k).length
    · have hlen : (p.drop k).length = p.length - k := List.length_drop
      have hd : decide (m < (n : Int)) = false := by rw [decide_eq_false_iff_not]; omega
      have hdn : ¬ m < (n : Int) := by omega
      rw [numS, takeS, if_pos hl]
      simp only
      have hr := hB
      obtain ⟨-, -, -, -, -, h3, -⟩ := hr
      have h3' : ∀ x ∈ p.drop k, 0 ≤ x ∧ x ≤ 255 := fun x hx => h3 x (List.mem_of_mem_drop hx)
      clear h3 hB hblk
      generalize p.drop k = q at *
      go_enter Try.func56, Try.ntmps56
      go_wp2
      go_quiet (fail)
      go_wp2
      go_loopw [5, 6] (fun v i wr => ∃ j : Nat, j ≤ n ∧ i = .int .i64 j ∧ v = .int .u64 (rd (q.take j)) ∧ InAt wr b D (some (q.drop j)) ∧ W.grownBy wr (some b)) (fun _ i _ => n - (intOf i).toNat)
      case atStart => exact ⟨0, by omega, rfl, rfl, by simpa using h'.dn nq, grown_dn (grown_ref _ _) _⟩
      case round =>
        obtain ⟨j, hj, rfl, rfl, hI, hg⟩ := hrel
        by_cases hlt : j < n
        · have hlq : j < q.length := by omega
          have hT := inByte_any hD hI
          rw [byteS_at hlq] at hT
          have hx := h3' q[j] (List.getElem_mem hlq)
          have hR := rd_nonneg (q.take j).length (q.take j) rfl (fun x hx => h3' x (List.mem_of_mem_take hx))
          have hR2 : rd (q.take j) < 72057594037927936 := by
            have h2 := p256_le (a := (q.take j).length) (b := 7) (by simp; omega)
            have h3 : (256 : Int) ^ 7 = 72057594037927936 := by decide
            omega
          have hnx : rd (q.take (j + 1)) = rd (q.take j) * 256 + q[j] := by rw [List.take_succ_eq_append_getElem hlq, rd_snoc]
          have hlt' : (j : Int) < (n : Int) := by omega
          have hR1 := hR.1
          have hn8 : (n : Int) ≤ 8 := by omega
          clear hR h3'
          generalize rd (q.take j) = R at *
          generalize hxx : q[j] = x at *
          have hw1 : IntKind.u64.wrap (256 * R) = 256 * R := by rw [IntKind.wrap_u64]; omega
          have hw2 : IntKind.u64.wrap (256 * R + x) = 256 * R + x := by rw [IntKind.wrap_u64]; omega
          go_wp2_with (go_at_call 55; refine hT.mono ?_; rintro e w1 ⟨rfl, hI2, hg2⟩)
          all_goals go_roundw
          case rel => exact ⟨j + 1, by omega, by go_num, by rw [hnx]; congr 1; omega, hI2, grown_tr hg hg2⟩
          case measure => (simp [intOf]; omega)
        · obtain rfl : j = n := by omega
          go_wp2
          go_ret
          exact ⟨rfl, hI, hg⟩
    · have hlen : (p.drop k).length = p.length - k := List.length_drop
      have hd : decide (m < (n : Int)) = true := by rw [decide_eq_true_iff]; omega
      have hdn : m < (n : Int) := by omega
      rw [numS, takeS, if_neg hl]
      simp only
      go_enter Try.func56, Try.ntmps56
      go_wp2
      go_quiet (fail)
      go_wp2
      go_ret
      have hg : W.grownBy ((W.drewN nq).setCell ⟨b, 2, none⟩ (.bool true)) (some b) := grown_se (grown_dn (grown_ref _ _) _) _ _
      exact ⟨rfl, ⟨_, p, k, true, by rw [block_set (W := W.drewN nq) _ hblk]; rfl, hB.kept hg (.inr hD), hk, rfl⟩, hg⟩
end Go.Proofs.Ytjhjgncnadhbhaa

/- codec's reader: numbers of 256 bits. -/
namespace Go.Proofs.Ytjhjgncnadhbhaa
open Go.RowKit

/-- Do bytes stand for a number, in the one way? -/
def goodB (q : List Int) : Bool := decide (q.length ≤ 32) && (q[0]? != some 0)
def nS (s : Option (List Int)) : Int × Option (List Int) :=
  if goodB (takeS (byteS s).2 (byteS s).1.toNat).1 then (rd (takeS (byteS s).2 (byteS s).1.toNat).1, (takeS (byteS s).2 (byteS s).1.toNat).2) else (0, none)
theorem goodB_t {q : List Int} (h : goodB q = true) (hr : ∀ x ∈ q, 0 ≤ x ∧ x ≤ 255) : Good q ∧ q.length ≤ 32 := by
  simp only [goodB, Bool.and_eq_true, decide_eq_true_eq, bne_iff_ne, ne_eq] at h
  refine ⟨⟨hr, fun x hx => ?_⟩, h.1⟩
  rw [List.head?_eq_getElem?] at hx
  have := hr x (List.mem_of_getElem? hx)
  have hne : x ≠ 0 := fun e => h.2 (by rw [hx, e])
  omega
theorem goodB_f {q : List Int} (h : goodB q = false) : 32 < q.length ∨ q[0]? = some 0 := by
  simp only [goodB, Bool.and_eq_false_iff, decide_eq_false_iff_not] at h
  rcases h with h | h
  · left; omega
  · right; simpa using h
theorem limbs_ofC {n : Int} (h0 : 0 ≤ n) (h1 : n < 115792089237316195423570985008687907853269984665640564039457584007913129639936) : ∃ z0 z1 z2 z3 : Int, Lim z0 z1 z2 z3 ∧ val z0 z1 z2 z3 = n :=
  ⟨n % 18446744073709551616, n / 18446744073709551616 % 18446744073709551616, n / 340282366920938463463374607431768211456 % 18446744073709551616, n / 6277101735386680763835789423207666416102355444464034512896, by unfold Lim; omega, by unfold val; omega⟩
theorem rd_limbs {q : List Int} (hr : ∀ x ∈ q, 0 ≤ x ∧ x ≤ 255) (hl : q.length ≤ 32) : ∃ z0 z1 z2 z3 : Int, Lim z0 z1 z2 z3 ∧ val z0 z1 z2 z3 = rd q := by
  have h1 := rd_nonneg q.length q rfl hr
  have h2 := p256_le hl
  have e : (256 : Int) ^ 32 = 115792089237316195423570985008687907853269984665640564039457584007913129639936 := by decide
  exact limbs_ofC h1.1 (by omega)
theorem takeS_rng2 {s : Option (List Int)} (h : Rng s) (n : Nat) : Rng (takeS s n).2 := by
  unfold takeS; split
  · intro p hp; simp at hp
  · rename_i p; split
    · intro p' hp' x hx; simp at hp'; subst hp'; exact h p rfl x (List.mem_of_mem_drop hx)
    · intro p hp; simp at hp

set_option maxRecDepth 10000 in
set_option maxHeartbeats 4000000 in
theorem rNum_any {W : World} {b : Nat} {D : Option Nat} {s : Option (List Int)} (hD : D ≠ some b) (hDl : ∀ d, D = some d → d < W.heap.size) (h : RdAt W b D s) :
    Calls Try.prog 75 #[.pointer (some ⟨b, 0, none⟩)] W fun e w' => ∃ z0 z1 z2 z3 : Int, e = .returned (.agg #[.int .u64 z0, .int .u64 z1, .int .u64 z2, .int .u64 z3]) ∧ Lim z0 z1 z2 z3 ∧ Hid (val z0 z1 z2 z3 = (nS s).1) ∧ RdAt w' b D (nS s).2 ∧ W.grownBy w' (some b) := by
  have hbl := h.lt
  have hDh : D = none ∨ D ≠ some W.heap.size := by
    cases hd : D with
    | none => exact .inl rfl
    | some d => right; intro e; have := hDl d hd; simp at e; omega
  have hR0 : RdAt (W.alloc (.cells #[.int .u64 0, .int .u64 0, .int .u64 0, .int .u64 0] 64)) b D s := h.kept (World.grownBy_alloc W _ none) (by simp) (by cases D <;> simp)
  have hT1 := rByte_any hD hR0
  have hlim := byteS_lim h.rng
  have hrg := takeS_rng2 h.rng 1
  have hrg : Rng (byteS s).2 := hrg
  obtain ⟨n, hn⟩ := Int.eq_ofNat_of_zero_le hlim.1
  unfold nS
  rw [hn] at hT1 hlim ⊢
  generalize (byteS s).2 = s1 at *
  rw [Int.toNat_natCast]
  have hq := takeS_rng hrg n
  have hT2 : ∀ (W' : World), RdAt W' b D s1 → _ := fun W' h' => rTake_any n (by omega) hD h'
  generalize (takeS s1 n).1 = q at *
  generalize (takeS s1 n).2 = s2 at *
  have hn255 : (n : Int) ≤ 255 := by omega
  have hb0 : b ≠ W.heap.size := by omega
  rcases Bool.eq_false_or_eq_true (goodB q) with hgd | hgd
  · rw [hgd, if_pos rfl]
    obtain ⟨hgood, hl32⟩ := goodB_t hgd hq
    obtain ⟨z0, z1, z2, z3, hz, hv⟩ := rd_limbs hq hl32
    have hv' : Hid _ := hv
    clear hv hgd hq hn hlim
    go_enter Try.func75, Try.ntmps75
    go_wp2_with (first
      | (go_at_call 49; refine hT1.mono ?_; rintro e w1 ⟨rfl, hr1, hg1⟩; have q1 := (hg1.block W.heap.size (by simp) (by simp; omega)).trans (al_at rfl); have l1 := hg1.size)
      | (go_at_call 74; refine (hT2 _ hr1).mono ?_; rintro e w2 ⟨u, rfl, hB2, hr2, hg2⟩; have q2 := (hg2.block W.heap.size (Array.getElem?_eq_some_iff.1 q1).1 (by simp; omega)).trans q1)
      | (go_at_call 95; refine (read_good hgood hl32 hz hv'.out _ hB2.is).mono ?_; rintro e w3 ⟨rfl, hb3⟩; have q3 := (hb3.block W.heap.size (Array.getElem?_eq_some_iff.1 q2).1).trans q2; have hr3 := hr2.kept (grown_none hb3) (by simp) (by cases D <;> simp); obtain ⟨c3, f3⟩ := cells_of_block q3; have l3 := (Array.getElem?_eq_some_iff.1 q3).1; have l3' : ¬ W.heap.size = w3.heap.size := (by omega)))
    have hG3 : W.grownBy w3 (some b) := grown_tr (grown_tr (grown_tr (World.grownBy_alloc W _ (some b)) hg1) hg2) (grown_up (grown_none hb3))
    have hk : w3.grownBy (((((w3.setCell ⟨W.heap.size, 0, none⟩ (.int .u64 z0)).setCell ⟨W.heap.size, 1, none⟩ (.int .u64 z1)).setCell ⟨W.heap.size, 2, none⟩ (.int .u64 z2)).setCell ⟨W.heap.size, 3, none⟩ (.int .u64 z3)).alloc (.cells #[.int .u64 z0, .int .u64 z1, .int .u64 z2, .int .u64 z3] 64)) (some W.heap.size) := grown_al (grown_se (grown_se (grown_se (grown_se (grown_ref _ _) _ _) _ _) _ _) _ _) _
    refine bodyPost_ret (v := .agg #[.int .u64 z0, .int .u64 z1, .int .u64 z2, .int .u64 z3]) (by simp only [results, Try.results75]; go_simp) rfl ⟨z0, z1, z2, z3, rfl, hz, hv', hr3.kept hk (by simp; omega) hDh, grown_new hG3 hk (Nat.le_refl _)⟩
  · rw [hgd]
    simp only [Bool.false_eq_true, if_false]
    have hbad := goodB_f hgd
    clear hgd hq hn hlim
    go_enter Try.func75, Try.ntmps75
    go_wp2_with (first
      | (go_at_call 49; refine hT1.mono ?_; rintro e w1 ⟨rfl, hr1, hg1⟩; have q1 := (hg1.block W.heap.size (by simp) (by simp; omega)).trans (al_at rfl); have l1 := hg1.size)
      | (go_at_call 74; refine (hT2 _ hr1).mono ?_; rintro e w2 ⟨u, rfl, hB2, hr2, hg2⟩; have q2 := (hg2.block W.heap.size (Array.getElem?_eq_some_iff.1 q1).1 (by simp; omega)).trans q1)
      | (go_at_call 95; refine (read_bad hbad _ hB2.is).mono ?_; rintro e w3 ⟨rfl, hb3⟩; have q3 := (hb3.block W.heap.size (Array.getElem?_eq_some_iff.1 q2).1).trans q2; have hr3 := hr2.kept (grown_none hb3) (by simp) (by cases D <;> simp); have l3 := (Array.getElem?_eq_some_iff.1 q3).1)
      | (go_at_call 51; refine (rFail_any (hr3.kept (World.grownBy_alloc w3 (.cells #[.int .u64 0, .int .u64 0, .int .u64 0, .int .u64 0] 64) none) (by simp) (by cases D <;> simp))).mono ?_; rintro e w4 ⟨rfl, hr4, hg4⟩; have q4 := (hg4.block W.heap.size (by simp; omega) (by simp; omega)).trans ((al_old l3).trans q3); have p4 := (hg4.block w3.heap.size (by simp) (by simp; omega)).trans (al_at rfl); obtain ⟨c4, f4⟩ := cells_of_block q4; obtain ⟨d4, e4⟩ := cells_of_block p4))
    have hG4 : W.grownBy w4 (some b) := grown_tr (grown_al (grown_tr (grown_tr (grown_tr (World.grownBy_alloc W _ (some b)) hg1) hg2) (grown_up (grown_none hb3))) _) hg4
    have hk : w4.grownBy ((((w4.setCell ⟨W.heap.size, 0, none⟩ (.int .u64 0)).setCell ⟨W.heap.size, 1, none⟩ (.int .u64 0)).setCell ⟨W.heap.size, 2, none⟩ (.int .u64 0)).setCell ⟨W.heap.size, 3, none⟩ (.int .u64 0)) (some W.heap.size) := grown_se (grown_se (grown_se (grown_se (grown_ref _ _) _ _) _ _) _ _) _ _
    refine bodyPost_ret (v := .agg #[.int .u64 0, .int .u64 0, .int .u64 0, .int .u64 0]) (by simp only [results, Try.results75]; go_simp) rfl ⟨0, 0, 0, 0, rfl, lim_zero, val0, hr4.kept hk (by simp; omega) hDh, grown_new hG4 hk (Nat.le_refl _)⟩
end Go.Proofs.Ytjhjgncnadhbhaa


/- codec's writer. -/
namespace Go.Proofs.Ytjhjgncnadhbhaa
open Go.RowKit

/-- A writer in block b that has laid these bytes, in a row of its own. -/
def WrAt (W : World) (b base : Nat) (v : Value) (p : List Int) : Prop := W.heap[b]? = some (.cells #[v] 44 (0, 0)) ∧ W.ownsRow base 5 1 v p.length (encB p)
/-- Nothing else that was there has turned; its row is the old one, or new. -/
structure WF (W W' : World) (b : Nat) (v v' : Value) : Prop where
  os : W'.os = W.os
  tape : W'.tape = W.tape
  output : W'.output = W.output
  size : W.heap.size ≤ W'.heap.size
  block : ∀ k, k < W.heap.size → k ≠ b → some k ≠ v.ownBlock → W'.heap[k]? = W.heap[k]?
  own : v'.ownBlock = v.ownBlock ∨ ∃ g, v'.ownBlock = some g ∧ W.heap.size ≤ g
theorem WF.trans {A B C : World} {b : Nat} {u v x : Value} (h : WF A B b u v) (k : WF B C b v x) : WF A C b u x := by
  refine ⟨k.os.trans h.os, k.tape.trans h.tape, k.output.trans h.output, Nat.le_trans h.size k.size, fun n hn h1 h2 => (k.block n (Nat.lt_of_lt_of_le hn h.size) h1 ?_).trans (h.block n hn h1 h2), ?_⟩
  · rcases h.own with e | ⟨g, e, hg⟩
    · rw [e]; exact h2
    · rw [e]; intro e'; simp at e'; omega
  · rcases k.own with e | ⟨g, e, hg⟩
    · rcases h.own with e2 | ⟨g, e2, hg⟩
      · exact .inl (e.trans e2)
      · exact .inr ⟨g, e.trans e2, hg⟩
    · exact .inr ⟨g, e, Nat.le_trans h.size hg⟩
theorem WF.pre {A B C : World} {b : Nat} {u v : Value} (h : A.grownBy B none) (k : WF B C b u v) : WF A C b u v :=
  ⟨k.os.trans h.os, k.tape.trans h.tape, k.output.trans h.output, Nat.le_trans h.size k.size, fun n hn h1 h2 => (k.block n (Nat.lt_of_lt_of_le hn h.size) h1 h2).trans (h.block n hn (by simp)), k.own.imp id (fun ⟨g, e, hg⟩ => ⟨g, e, Nat.le_trans h.size hg⟩)⟩
theorem WF.post {A B C : World} {b : Nat} {u v : Value} (h : WF A B b u v) (k : B.grownBy C none) : WF A C b u v :=
  ⟨k.os.trans h.os, k.tape.trans h.tape, k.output.trans h.output, Nat.le_trans h.size k.size, fun n hn h1 h2 => (k.block n (Nat.lt_of_lt_of_le hn h.size) (by simp)).trans (h.block n hn h1 h2), h.own⟩
theorem WF.below {w W W' : World} {b base : Nat} {v v' : Value} {p : List Int} (h : Below w.heap.size w W) (k : WF W W' b v v') (hW : WrAt W b base v p) (hb : w.heap.size ≤ b) (hbase : w.heap.size ≤ base) : Below w.heap.size w W' := by
  refine ⟨k.os.trans h.os, k.tape.trans h.tape, k.output.trans h.output, Nat.le_trans h.size k.size, fun n hn => (k.block n (Nat.lt_of_lt_of_le hn h.size) (by omega) (fun e => ?_)).trans (h.block n hn)⟩
  have := (hW.2.lt n e.symm).1; omega
theorem WF.row {A B : World} {b : Nat} {v v' u : Value} {base : Nat} {e : TypeId} {size n : Nat} {xs : List Value} (k : WF A B b v v') (h : A.ownsRow base e size u n xs) (hb : u.ownBlock ≠ some b) (hv : u.ownBlock = none ∨ u.ownBlock ≠ v.ownBlock) : B.ownsRow base e size u n xs := by
  refine ⟨h.1, ?_⟩
  rcases h.2 with h2 | ⟨g, cap, cur, rfl, h1, h2, h3⟩
  · exact .inl h2
  · refine .inr ⟨g, cap, cur, rfl, h1, (k.block g (Array.getElem?_eq_some_iff.1 h2).1 (fun e => hb (by rw [e]; rfl)) (fun e => ?_)).trans h2, h3⟩
    rcases hv with hv | hv
    · simp [Value.ownBlock] at hv
    · exact hv e
theorem WrAt.kept {W W' : World} {b base : Nat} {v : Value} {p : List Int} {r : Option Nat} (h : WrAt W b base v p) (hg : W.grownBy W' r) (h1 : some b ≠ r) (h2 : v.ownBlock = none ∨ v.ownBlock ≠ r) : WrAt W' b base v p :=
  ⟨(hg.block b (Array.getElem?_eq_some_iff.1 h.1).1 h1).trans h.1, h.2.kept hg h2⟩
theorem WrAt.lt {W : World} {b base : Nat} {v : Value} {p : List Int} (h : WrAt W b base v p) : b < W.heap.size := (Array.getElem?_eq_some_iff.1 h.1).1
set_option maxHeartbeats 2000000 in
theorem lay_any {W : World} {b base : Nat} {v u : Value} {p q : List Int} (hW : WrAt W b base v p) (hbase : base ≤ W.heap.size) (hl : p.length + q.length ≤ 1048576) (hu : Src W u q) :
    Calls Try.prog 71 #[.pointer (some ⟨b, 0, none⟩), u] W fun e w' => e = .returned (.pointer (some ⟨b, 0, none⟩)) ∧ ∃ v', WrAt w' b base v' (p ++ q) ∧ WF W w' b v v' := by
  have hW' := hW
  obtain ⟨hblk, hrow⟩ := hW
  obtain ⟨c, f⟩ := cells_of_block hblk
  have lb := (Array.getElem?_eq_some_iff.1 hblk).1
  have hnr := not_row (e := 5) hblk (by decide) hrow
  obtain ⟨i0, hi, hz0, hz1, hz2⟩ := info_parts u8_info
  obtain ⟨a0, cap0, rfl⟩ := row_slice hrow
  rcases hu with ⟨rfl, rfl⟩ | ⟨ad, cap, rfl, hc⟩
  · rw [List.append_nil]
    go_enter Try.func71, Try.ntmps71
    go_wp2_with (at_builtin; refine wpList_append_own_none rfl _ _ 42 rfl base 5 i0 1 Try.underlying42 hi _ _ _ rfl hrow rfl ?_)
    go_ret
    have e : W.setCell ⟨b, 0, none⟩ (.slice a0 p.length cap0) = W := by
      have e1 : (W.setCell ⟨b, 0, none⟩ (.slice a0 p.length cap0)).heap = W.heap := by
        apply Array.ext_getElem?
        intro k
        by_cases hk : b = k
        · subst hk; rw [block_set _ hblk, hblk]; rfl
        · exact Below.heap_setCell W ⟨b, 0, none⟩ _ k (fun e => hk e.symm)
      have e2 : W.setCell ⟨b, 0, none⟩ (.slice a0 p.length cap0) = { W with heap := (W.setCell ⟨b, 0, none⟩ (.slice a0 p.length cap0)).heap } := rfl
      rw [e2, e1]
    refine ⟨rfl, .slice a0 p.length cap0, ?_, ?_⟩
    · rw [e]; exact hW'
    · rw [e]; exact ⟨rfl, rfl, rfl, Nat.le_refl _, fun _ _ _ _ => rfl, .inl rfl⟩
  · go_enter Try.func71, Try.ntmps71
    go_wp2_with (at_builtin; refine wpList_append_own_at _ rfl _ _ 42 rfl base 5 i0 _ 1 1 Try.underlying42 hi hz0 hz1 hz2 rfl (by decide) _ _ _ rfl hrow ad q.length cap (encB q) rfl (by simp [encB]) (fun j x hj => by simp only [encB, List.getElem?_map] at hj; obtain ⟨y, hy, rfl⟩ := Option.map_eq_some_iff.1 hj; exact hc j y hy) (by simp [encB, Value.oneCell']) (by unfold maxLen; omega) (by omega) hbase ?_; intro v' w1 hown' hgrow _ hat; obtain ⟨a1, cap1, rfl⟩ := row_slice hown'; have hb1 := (hgrow.block b lb hnr).trans hblk; obtain ⟨c1, f1⟩ := cells_of_block hb1)
    go_ret
    have hnr1 := not_row (e := 5) hb1 (by decide) hown'
    have hgs : w1.grownBy (w1.setCell ⟨b, 0, none⟩ (.slice a1 (p.length + q.length) cap1)) (some b) := grown_se (grown_ref _ _) _ _
    refine ⟨rfl, .slice a1 (p.length + q.length) cap1, ⟨by rw [block_set _ hb1]; rfl, ?_⟩, ?_⟩
    · rw [List.length_append, encB_app]
      exact hown'.kept hgs (.inr (fun e => hnr1 e.symm))
    · refine ⟨hgrow.os, hgrow.tape, hgrow.output, Nat.le_trans hgrow.size hgs.size, fun k hk h1 h2 => (hgs.block k (Nat.lt_of_lt_of_le hk hgrow.size) (by simpa using h1)).trans (hgrow.block k hk h2), ?_⟩
      rcases hat with e | e
      · exact .inl e
      · exact .inr ⟨_, e, Nat.le_refl _⟩
end Go.Proofs.Ytjhjgncnadhbhaa
