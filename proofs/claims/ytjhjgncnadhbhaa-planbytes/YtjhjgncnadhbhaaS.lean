
/- coins.Rest; the law's own example of it (little). -/
import Derived.Test.YtjhjgncnadhbhaaL
import Derived.Test.YtjhjgncnadhbhaaH
import Derived.Test.YtjhjgncnadhbhaaR
set_option linter.unusedSimpArgs false
set_option linter.unusedVariables false
set_option maxRecDepth 20000
namespace Go.Proofs.Ytjhjgncnadhbhaa
open Go.RowKit

theorem cellsL_at {l : List Cn} {i : Nat} {x : Cn} (hi : l[i]? = some x) : ∀ j, j < 5 → (cellsL l)[i * 5 + j]? = [Value.int .u8 x.d, .int .u64 x.a, .int .u64 x.b, .int .u64 x.c, .int .u64 x.e][j]? := by
  induction l generalizing i with
  | nil => simp at hi
  | cons y l ih =>
    intro j hj
    have e : cellsL (y :: l) = [Value.int .u8 y.d, .int .u64 y.a, .int .u64 y.b, .int .u64 y.c, .int .u64 y.e] ++ cellsL l := rfl
    rw [e]
    cases i with
    | zero => simp at hi; subst hi; rw [List.getElem?_append_left (by simp; omega)]; simp
    | succ i =>
      rw [List.getElem?_append_right (by simp; omega)]
      have := ih (by simpa using hi) j hj
      rw [← this]; congr 1; simp; omega

set_option maxHeartbeats 400000 in
theorem unfailing_any (f : Value) (w : World) (hf : f.oneCell' = true) :
    Calls Try.prog 69 #[f] w fun e w' => e = .returned (.func (.func 91) #[] #[.pointer (some ⟨w.heap.size, 0, none⟩)]) ∧ w' = w.alloc (.cells #[f] 110) := by
  have hmf : ∀ (fn : Fn) (first cap : Array Value) (w : World), (Instr.makeFunc fn first cap).run Try.prog w = .ok (.func fn first cap) w := fun _ _ _ _ => rfl
  go_enter Try.func69, Try.ntmps69
  go_wp2
  go_ret
  exact ⟨rfl, rfl⟩

set_option maxHeartbeats 400000 in
theorem ofEachM_any (f : Value) (w : World) (hf : f.oneCell' = true) :
    Calls Try.prog 68 #[f] w fun e w' => e = .returned (.func (.func 89) #[] #[.pointer (some ⟨w.heap.size, 0, none⟩)]) ∧ w' = w.alloc (.cells #[f] 108) := by
  have hmf : ∀ (fn : Fn) (first cap : Array Value) (w : World), (Instr.makeFunc fn first cap).run Try.prog w = .ok (.func fn first cap) w := fun _ _ _ _ => rfl
  go_enter Try.func68, Try.ntmps68
  go_wp2
  go_ret
  exact ⟨rfl, rfl⟩

set_option maxHeartbeats 1000000 in
/-- The closure of unfailing, around num.Rest. -/
theorem unfailingRest_any (pq : Nat) (x0 x1 x2 x3 y0 y1 y2 y3 : Int) (hx : Lim x0 x1 x2 x3) (hy : Lim y0 y1 y2 y3) (w : World)
    (hpq : w.heap[pq]? = some (.cells #[.func (.func 70) #[] #[]] 110 (0, 0))) :
    Calls Try.prog 91 #[.agg #[.int .u64 x0, .int .u64 x1, .int .u64 x2, .int .u64 x3], .agg #[.int .u64 y0, .int .u64 y1, .int .u64 y2, .int .u64 y3], .pointer (some ⟨pq, 0, none⟩)] w fun e w' =>
      ∃ z0 z1 z2 z3 c : Int, e = .returned (.tuple #[.agg #[.int .u64 z0, .int .u64 z1, .int .u64 z2, .int .u64 z3], .int .i64 c]) ∧ Lim z0 z1 z2 z3 ∧ (c = 0 ∧ val z0 z1 z2 z3 = restI (val x0 x1 x2 x3) (val y0 y1 y2 y3)) ∧ Below w.heap.size w w' := by
  have hpad := pads
  have hpl : pq < w.heap.size := (Array.getElem?_eq_some_iff.1 hpq).1
  have hplf := ltf hpl
  obtain ⟨cp, fp⟩ := cells_of_block hpq
  go_enter Try.func91, Try.ntmps91
  go_wp2_with (go_at_call 70; refine (rest_any _ _ _ _ _ _ _ _ hx hy _).mono ?_; rintro e w1 ⟨z0, z1, z2, z3, rfl, hz, he, hb⟩; obtain ⟨m1, g1, d1, hm1, rfl⟩ := pad_of hb; clear hb; (try simp [pad_size] at hm1); have st1_w := sz3 (n := w.heap.size) (m := m1) (by omega))
  refine bodyPost_ret (v := .tuple #[.agg #[.int .u64 z0, .int .u64 z1, .int .u64 z2, .int .u64 z3], .int .i64 0]) (by simp only [results, Try.results91]; go_simp) rfl ⟨z0, z1, z2, z3, 0, rfl, hz, ⟨rfl, he.out⟩, ?_⟩
  (repeat (first | (with_reducible exact Below.refl _ _) | (with_reducible assumption) | (with_reducible apply bd) | (with_reducible apply ba) | (with_reducible refine bp ?_ (by first | omega | (simp [pad_size]; done) | (simp [pad_size]; omega)) _ _) | (with_reducible refine bs ?_ (by first | omega | (simp [pad_size]; done) | (simp [pad_size]; omega)) _) | (with_reducible refine bt ?_ (by assumption))))

set_option maxHeartbeats 1000000 in
theorem coinsRest_any {va vb : Value} {la lb : List Cn} (w : World) (hA : IsCoins w va la) (hB : IsCoins w vb lb) (hlA : ∀ d, LimC (amt la d)) (hlB : ∀ d, LimC (amt lb d)) :
    Calls Try.prog 42 #[va, vb] w fun e w' =>
      ∃ (z : Nat → Cn) (v : Value), e = .returned v ∧ (∀ d, d < 8 → LimC (z d) ∧ (z d).d = d ∧ vl (z d) = restI (vl (amt la d)) (vl (amt lb d))) ∧ w'.ownsRow w.heap.size 66 5 v (lst z 8).length (cellsL (lst z 8)) ∧ Below w.heap.size w w' := by
  have hof : ∀ (x0 x1 x2 x3 y0 y1 y2 y3 : Int) (W : World), Lim x0 x1 x2 x3 → Lim y0 y1 y2 y3 →
      Below ((w.alloc (.cells #[.func (.func 70) #[] #[]] 110)).alloc (.cells #[.func (.func 91) #[] #[.pointer (some ⟨w.heap.size, 0, none⟩)]] 108)).heap.size ((w.alloc (.cells #[.func (.func 70) #[] #[]] 110)).alloc (.cells #[.func (.func 91) #[] #[.pointer (some ⟨w.heap.size, 0, none⟩)]] 108)) W →
      Calls Try.prog 91 (#[.agg #[.int .u64 x0, .int .u64 x1, .int .u64 x2, .int .u64 x3], .agg #[.int .u64 y0, .int .u64 y1, .int .u64 y2, .int .u64 y3]] ++ #[.pointer (some ⟨w.heap.size, 0, none⟩)]) W fun e w' =>
        ∃ z0 z1 z2 z3 c : Int, e = .returned (.tuple #[.agg #[.int .u64 z0, .int .u64 z1, .int .u64 z2, .int .u64 z3], .int .i64 c]) ∧ Lim z0 z1 z2 z3 ∧ (c = 0 ∧ val z0 z1 z2 z3 = restI (val x0 x1 x2 x3) (val y0 y1 y2 y3)) ∧ Below W.heap.size W w' :=
    fun x0 x1 x2 x3 y0 y1 y2 y3 W hx hy hb => unfailingRest_any w.heap.size x0 x1 x2 x3 y0 y1 y2 y3 hx hy W ((hb.block w.heap.size (by simp; omega)).trans (by (repeat (first | (with_reducible exact al_at (by simp [pad_size])) | (with_reducible refine Eq.trans (dr_blk _ _) ?_) | (with_reducible refine Eq.trans (al_old (by first | omega | (simp [pad_size]; done) | (simp [pad_size]; omega))) ?_) | (with_reducible refine Eq.trans (pad_block (by first | omega | (simp [pad_size]; done) | (simp [pad_size]; omega)) (by first | omega | (simp [pad_size]; done) | (simp [pad_size]; omega))) ?_) | (with_reducible assumption)))))
  go_enter Try.func42, Try.ntmps42
  go_wp2_with (first
    | (go_at_call 69; refine (unfailing_any _ _ rfl).mono ?_; rintro e w1 ⟨rfl, rfl⟩)
    | (go_at_call 68; refine (ofEachM_any _ _ rfl).mono ?_; rintro e w1 ⟨rfl, rfl⟩)
    | (go_at_call 89; refine (ofEach_any 91 #[.pointer (some ⟨w.heap.size, 0, none⟩)] (fun x y z c => c = 0 ∧ z = restI x y) (w.heap.size + 1) _ (hA.below (by (repeat (first | (with_reducible exact Below.refl _ _) | (with_reducible assumption) | (with_reducible apply bd) | (with_reducible apply ba) | (with_reducible refine bp ?_ (by first | omega | (simp [pad_size]; done) | (simp [pad_size]; omega)) _ _) | (with_reducible refine bs ?_ (by first | omega | (simp [pad_size]; done) | (simp [pad_size]; omega)) _) | (with_reducible refine bt ?_ (by assumption)))))) (hB.below (by (repeat (first | (with_reducible exact Below.refl _ _) | (with_reducible assumption) | (with_reducible apply bd) | (with_reducible apply ba) | (with_reducible refine bp ?_ (by first | omega | (simp [pad_size]; done) | (simp [pad_size]; omega)) _ _) | (with_reducible refine bs ?_ (by first | omega | (simp [pad_size]; done) | (simp [pad_size]; omega)) _) | (with_reducible refine bt ?_ (by assumption)))))) hlA hlB (by (repeat (first | (with_reducible exact al_at (by simp [pad_size])) | (with_reducible refine Eq.trans (dr_blk _ _) ?_) | (with_reducible refine Eq.trans (al_old (by first | omega | (simp [pad_size]; done) | (simp [pad_size]; omega))) ?_) | (with_reducible refine Eq.trans (pad_block (by first | omega | (simp [pad_size]; done) | (simp [pad_size]; omega)) (by first | omega | (simp [pad_size]; done) | (simp [pad_size]; omega))) ?_) | (with_reducible assumption)))) (enters_of Try.func91 (by kernel_rfl) rfl) hof).mono ?_; clear hof; rintro e w1 (⟨z, v, rfl, hz, hown, hb⟩ | ⟨kk, c, z0, _, hc, ⟨h0, _⟩, _⟩); rotate_left; exact absurd h0 hc))
  go_ret
  refine ⟨z, v, rfl, fun d hd => ⟨(hz d hd).1, (hz d hd).2.1, (hz d hd).2.2.2⟩, ?_, ?_⟩
  · obtain ⟨h1, h2⟩ := hown
    refine ⟨h1, ?_⟩
    rcases h2 with h2 | ⟨g, cap, cur, hv, hg, r⟩
    · exact .inl h2
    · exact .inr ⟨g, cap, cur, hv, by simp at hg; omega, r⟩
  · exact bt (ba (ba (Below.refl _ _) _) _) hb

theorem own_coins {W : World} {base : Nat} {v : Value} {l : List Cn} (h : W.ownsRow base 66 5 v l.length (cellsL l)) (hl : l.length ≤ 1048576) : IsCoins W v l := by
  obtain ⟨h1, h2⟩ := h
  rcases h2 with ⟨rfl, h0⟩ | ⟨g, cap, cur, rfl, hg, hb, hn, hc, hsz, htk⟩
  · exact .inl ⟨List.eq_nil_of_length_eq_zero h0, none, 0, rfl⟩
  · by_cases e : l = []
    · subst e; exact .inl ⟨rfl, _, cap, rfl⟩
    · refine .inr ⟨g, 0, cap, rfl, e, hl, (Array.getElem?_eq_some_iff.1 hb).1, fun i x hi => ?_⟩
      obtain ⟨cc, _⟩ := cells_of_block hb
      have hil : i < l.length := (List.getElem?_eq_some_iff.1 hi).1
      have key : ∀ j, j < 5 → cur[0 + i * 5 + j]? = (cellsL l)[i * 5 + j]? := by
        intro j hj
        rw [← htk, List.getElem?_take_of_lt (by omega)]
        simp
      have hcl := cellsL_at hi
      refine ⟨?_, ?_, ?_, ?_, ?_⟩
      · have := key 0 (by omega); simp only [Nat.add_zero] at this; rw [cc, this]; simpa using hcl 0 (by omega)
      · rw [cc, key 1 (by omega)]; simpa using hcl 1 (by omega)
      · rw [cc, key 2 (by omega)]; simpa using hcl 2 (by omega)
      · rw [cc, key 3 (by omega)]; simpa using hcl 3 (by omega)
      · rw [cc, key 4 (by omega)]; simpa using hcl 4 (by omega)
end Go.Proofs.Ytjhjgncnadhbhaa
