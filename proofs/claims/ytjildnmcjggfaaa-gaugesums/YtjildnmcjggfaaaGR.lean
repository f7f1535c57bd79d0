
/- The reference's Sum; sums of points that are floats of numbers. -/
import Derived.Test.YtjildnmcjggfaaaGQ
set_option linter.unusedSimpArgs false
set_option linter.unusedVariables false
namespace Go.Proofs.Ytjildnmcjggfaaa
open Go.RowKit

def sum0 (l : List (Nat × Nat)) : Nat × Nat := l.foldl addP (0, 0)
theorem sum0_take {l : List (Nat × Nat)} {q : Nat} {y : Nat × Nat} (h : l[q]? = some y) : sum0 (l.take (q + 1)) = addP (sum0 (l.take q)) y := by
  unfold sum0
  rw [List.take_add_one, h, List.foldl_append]
  rfl
theorem ps0 : PsP (0, 0) := ⟨ps_word (by decide), ps_word (by decide)⟩
theorem sum0_ps {l : List (Nat × Nat)} (k : ∀ y ∈ l, PsP y) : PsP (sum0 l) := sumP_ps (x := (0, 0)) ps0 k
theorem ptO_ps {t : Tw8} (h : T8ok t) : PsP (ptO t) := ⟨(fI_ps h.1).1, (fI_ps h.2).1⟩
theorem addF_zero {v : Int} (h : 0 ≤ v ∧ v < 115792089237316195423570985008687907853269984665640564039457584007913129639936) : addF 0 (fI v) = fI v := by
  unfold addF fI
  rw [add_zero_fN (by have := log_256 (n := v.toNat) (by omega); omega)]; rfl
theorem sum0_cons {t : Tw8} (h : T8ok t) (l : List (Nat × Nat)) : sum0 (ptO t :: l) = sumP (ptO t) l := by
  unfold sum0 sumP
  rw [List.foldl_cons]
  have e : addP (0, 0) (ptO t) = ptO t := by
    unfold addP ptO
    simp only
    rw [addF_zero ⟨val_lo h.1, val_hi h.1⟩, addF_zero ⟨val_lo h.2, val_hi h.2⟩]
  rw [e]
theorem set2_blk {W : World} {b : Nat} {x y u v : Value} {t : TypeId} (h : W.heap[b]? = some (.cells #[x, y] t (0, 0))) : ((W.setCell ⟨b, 0, none⟩ u).setCell ⟨b, 1, none⟩ v).heap[b]? = some (.cells #[u, v] t (0, 0)) := by
  rw [block_set _ (block_set _ h)]; rfl

theorem below_set2 {A W : World} {n b : Nat} {u v : Value} (h : Below n A W) (hb : n ≤ b) : Below n A ((W.setCell ⟨b, 0, none⟩ u).setCell ⟨b, 1, none⟩ v) := by
  have h1 : Below n A (W.setCell ⟨b, 0, none⟩ u) := h.setCell hb _
  exact h1.setCell hb _
set_option maxRecDepth 100000 in
set_option maxHeartbeats 4000000 in
theorem sumR_any {W : World} {a : Option Addr} {n cap g : Nat} {l : List (Nat × Nat)} (hn : Hid (n = l.length)) (hl : n ≤ 1000000) (ha : n = 0 ∨ (a = some ⟨g, 0, none⟩ ∧ g < W.heap.size)) (hc : ∀ i y, l[i]? = some y → W.cell? ⟨g, i * 2, none⟩ = some (.float .f64 y.1) ∧ W.cell? ⟨g, i * 2 + 1, none⟩ = some (.float .f64 y.2)) (hp : ∀ y ∈ l, PsP y) :
    Calls Try.prog 19 #[.slice a n cap] W fun e w' => e = .returned (.agg #[.float .f64 (sum0 l).1, .float .f64 (sum0 l).2]) ∧ Below W.heap.size W w' := by
  have hpad := pads
  have hst := st_float
  go_enter Try.func19, Try.ntmps19
  go_wp2
  go_loopw [4] (fun i wr => ∃ (k A B : Nat), k ≤ n ∧ i = .int .i64 (k : Int) ∧ wr.heap[W.heap.size]? = some (.cells #[.float .f64 0, .float .f64 0] 35 (0, 0)) ∧ wr.heap[W.heap.size + 1]? = some (.cells #[.float .f64 A, .float .f64 B] 35 (0, 0)) ∧ Hid ((A, B) = sum0 (l.take k)) ∧ Below W.heap.size W wr) (fun i _ => n - (intOf i).toNat)
  case atStart => exact ⟨0, 0, 0, by omega, rfl, (al_old (by simp)).trans (al_at rfl), al_at (by simp), rfl, by (repeat (first | (with_reducible exact Below.refl _ _) | (with_reducible assumption) | (with_reducible apply bd) | (with_reducible apply ba) | (with_reducible refine bp ?_ (by first | omega | (simp [pad_size]; done) | (simp [pad_size]; omega)) _ _) | (with_reducible refine bs ?_ (by first | omega | (simp [pad_size]; done) | (simp [pad_size]; omega)) _) | (with_reducible refine bt ?_ (by assumption))))⟩
  case round =>
    obtain ⟨k, A, B, hk, rfl, q0, q1, hAB, hB⟩ := hrel
    obtain ⟨c0, f0⟩ := cells_of_block q0
    obtain ⟨c1, f1⟩ := cells_of_block q1
    by_cases hlt : k < n
    · rcases ha with h0 | ⟨rfl, hg⟩
      · omega
      have hkl : k < l.length := by have := hn.out; omega
      have hy := List.getElem?_eq_getElem hkl
      have hmem := List.getElem_mem hkl
      generalize l[k] = y at *
      obtain ⟨cy1, cy2⟩ := hc k y hy
      have cx1 := (hB.cell (p := ⟨g, k * 2, none⟩) hg).trans cy1
      have cx2 := (hB.cell (p := ⟨g, k * 2 + 1, none⟩) hg).trans cy2
      have hs := sum0_take hy
      rw [← hAB.out] at hs
      have hps : PsP (A, B) := by rw [hAB.out]; exact sum0_ps (fun z hz => hp z (List.mem_of_mem_take hz))
      have hpy := hp y hmem
      have ha1 := (addF_ok hps.1 hpy.1).1
      have ha2 := (addF_ok hps.2 hpy.2).1
      obtain ⟨y1, y2⟩ := y
      simp only at ha1 ha2 cx1 cx2
      have k1 : ∀ w : World, (binOp .add 26 (.float .f64 A) (.float .f64 y1)).run Try.prog w = .ok (.float .f64 (addF A y1)) w := fun w => run_float_arith w _ _ _ _ _ _ ha1
      have k2 : ∀ w : World, (binOp .add 26 (.float .f64 B) (.float .f64 y2)).run Try.prog w = .ok (.float .f64 (addF B y2)) w := fun w => run_float_arith w _ _ _ _ _ _ ha2
      have hst2 : Hid ((addF A y1, addF B y2) = sum0 (l.take (k + 1))) := hs.symm
      have hgne : ¬ g = W.heap.size + 1 := by omega
      have hdl : decide ((k : Int) < (n : Int)) = true := by simpa using hlt
      have hwk : IntKind.i64.wrap ((k : Int) + 1) = (k : Int) + 1 := by rw [IntKind.wrap_i64]; omega
      clear hc cy1 cy2 hs hps hpy ha1 ha2 hmem
      generalize addF A y1 = A' at *
      generalize addF B y2 = B' at *
      go_upto_region 5 with fail
      go_region
      all_goals go_wp2
      all_goals go_roundw
      case rel =>
        refine ⟨k + 1, A', B', by omega, by go_num, ?_, ?_, hst2, ?_⟩
        · first | exact block_set_other _ (block_set_other _ q0 (by omega)) (by omega) | (show _ = _; simpa using block_set_other _ (block_set_other _ q0 (by omega)) (by omega))
        · exact set2_blk q1
        · first | exact below_set2 hB (show W.heap.size ≤ W.heap.size + 1 by omega) | exact below_set2 hB.drew (show W.heap.size ≤ W.heap.size + 1 by omega) | exact below_set2 hB.drew.drew (show W.heap.size ≤ W.heap.size + 1 by omega) | (trace_state; exact hB)
      case measure => (simp [intOf] <;> omega)
    · have hkn : k = n := by omega
      have e : (A, B) = sum0 l := by rw [hAB.out, hkn, hn.out, List.take_length]
      have hdl : decide ((k : Int) < (n : Int)) = false := by simpa using hlt
      go_wp2
      refine bodyPost_ret (v := .agg #[.float .f64 A, .float .f64 B]) (by simp only [results, Try.results19]; go_simp) rfl ⟨by rw [← e], ?_⟩
      exact below_set2 hB (Nat.le_refl _)
end Go.Proofs.Ytjildnmcjggfaaa
