
/- The law's points: the walk. -/
import Derived.Test.YtjildnmcjggfaaaGP
set_option linter.unusedSimpArgs false
set_option linter.unusedVariables false
namespace Go.Proofs.Ytjildnmcjggfaaa
open Go.RowKit

set_option maxRecDepth 100000 in
set_option maxHeartbeats 8000000 in
theorem points_any {w0 : World} {a : Option Addr} {len cap : Nat} {l : List Tw8} (h : TwosIn w0 a len l) (hlen : len ≤ 50) :
    Calls Try.prog 18 #[.slice a len cap] w0 fun e w' => ∃ p q, e = .returned (.tuple #[p, q]) ∧ PJ w0 w' p q (l.map ptO) (l.map ptO) := by
  have hpad := pads
  have hst := st_float
  obtain ⟨hln, hok, hcell⟩ := h
  go_enter Try.func18, Try.ntmps18
  go_wp2
  go_loopw [4, 5, 6] (fun p q i wr => ∃ k : Nat, k ≤ len ∧ i = .int .i64 (k : Int) ∧ PJ w0 wr p q ((l.take k).map ptO) ((l.take k).map ptO)) (fun _ _ i _ => len - (intOf i).toNat)
  case atStart => exact ⟨0, by omega, rfl, ⟨⟨rfl, .inl ⟨rfl, rfl⟩⟩, ⟨rfl, .inl ⟨rfl, rfl⟩⟩, Below.refl _ _⟩⟩
  case round =>
    obtain ⟨k, hk, rfl, hJ⟩ := hrel
    by_cases hlt : k < len
    · have hkl : k < l.length := by omega
      have hy := List.getElem?_eq_getElem hkl
      have hyok := hok _ (List.getElem_mem hkl)
      generalize l[k] = y at *
      rcases hcell with h0 | ⟨blk, off, rfl, hblk, hc⟩
      · omega
      have hcy := hc k y hy
      clear hc
      have htake : l.take (k + 1) = l.take k ++ [y] := by rw [List.take_add_one, hy]; rfl
      have hnext : Hid ((l.take (k + 1)).map ptO = (l.take k).map ptO ++ [ptO y]) := by show _ = _; rw [htake]; simp
      have hL : ((l.take k).map ptO).length ≤ 1000 := by simp; omega
      generalize (l.take k).map ptO = L at *
      obtain ⟨a0, a1, a2, a3, b0, b1, b2, b3⟩ := y
      obtain ⟨ha, hb⟩ := hyok
      have hP := point_any ha hb
      have hA := floatR_any ha
      have hB := floatR_any hb
      have hpt : ptO ⟨a0, a1, a2, a3, b0, b1, b2, b3⟩ = (fI (val a0 a1 a2 a3), fI (val b0 b1 b2 b3)) := rfl
      rw [hpt] at hnext
      simp only at ha hb hP hA hB
      generalize fI (val a0 a1 a2 a3) = fa at *
      generalize fI (val b0 b1 b2 b3) = fb at *
      have hK : Hid (∀ X, Below w0.heap.size w0 X → (X.cell? ⟨blk, off + k * 8, none⟩ = some (.int .u64 a0) ∧ X.cell? ⟨blk, off + k * 8 + 1, none⟩ = some (.int .u64 a1) ∧ X.cell? ⟨blk, off + k * 8 + 2, none⟩ = some (.int .u64 a2) ∧ X.cell? ⟨blk, off + k * 8 + 3, none⟩ = some (.int .u64 a3) ∧ X.cell? ⟨blk, off + k * 8 + 4, none⟩ = some (.int .u64 b0) ∧ X.cell? ⟨blk, off + k * 8 + 5, none⟩ = some (.int .u64 b1) ∧ X.cell? ⟨blk, off + k * 8 + 6, none⟩ = some (.int .u64 b2) ∧ X.cell? ⟨blk, off + k * 8 + 7, none⟩ = some (.int .u64 b3))) := by
        intro X hX
        have cc : ∀ j v, (t8V ⟨a0, a1, a2, a3, b0, b1, b2, b3⟩)[j]? = some v → X.cell? ⟨blk, off + k * 8 + j, none⟩ = some v := fun j v hv => (hX.cell (p := ⟨blk, off + k * 8 + j, none⟩) hblk).trans (hcy j v hv)
        exact ⟨cc 0 _ rfl, cc 1 _ rfl, cc 2 _ rfl, cc 3 _ rfl, cc 4 _ rfl, cc 5 _ rfl, cc 6 _ rfl, cc 7 _ rfl⟩
      have hk0 := hK.out _ hJ.below
      obtain ⟨pa, pc, rfl⟩ := row_slice hJ.rp
      obtain ⟨qa, qc, rfl⟩ := row_slice hJ.rq
      have hdl : decide ((k : Int) < (len : Int)) = true := by simpa using hlt
      have hwk : IntKind.i64.wrap ((k : Int) + 1) = (k : Int) + 1 := by rw [IntKind.wrap_i64]; omega
      clear hcy ha hb hpt hok hy htake hln
      go_upto_region 6 with fail
      go_region_held2 (fun X => X.cell? ⟨blk, off + k * 8, none⟩ = some (.int .u64 a0) ∧ X.cell? ⟨blk, off + k * 8 + 1, none⟩ = some (.int .u64 a1) ∧ X.cell? ⟨blk, off + k * 8 + 2, none⟩ = some (.int .u64 a2) ∧ X.cell? ⟨blk, off + k * 8 + 3, none⟩ = some (.int .u64 a3) ∧ X.cell? ⟨blk, off + k * 8 + 4, none⟩ = some (.int .u64 b0) ∧ X.cell? ⟨blk, off + k * 8 + 5, none⟩ = some (.int .u64 b1) ∧ X.cell? ⟨blk, off + k * 8 + 6, none⟩ = some (.int .u64 b2) ∧ X.cell? ⟨blk, off + k * 8 + 7, none⟩ = some (.int .u64 b3)) (first | (with_reducible exact hK.out _ (PJ.below (by assumption))) | exact hK.out _ (bt hJ.below (by (repeat (first | (with_reducible exact Below.refl _ _) | (with_reducible assumption) | (with_reducible apply bd) | (with_reducible apply ba) | (with_reducible refine bp ?_ (by first | omega | (simp [pad_size]; done) | (simp [pad_size]; omega)) _ _) | (with_reducible refine bs ?_ (by first | omega | (simp [pad_size]; done) | (simp [pad_size]; omega)) _) | (with_reducible refine bt ?_ (by assumption))))))) (first
        | (go_at_call 17; with_reducible refine (hP _).mono ?_; rintro e w' ⟨rfl, hb⟩; obtain ⟨m1, g1, d1, hm1, rfl⟩ := pad_of hb; clear hb; (try simp [pad_size] at hm1))
        | (rw [if_pos (by rfl)]; refine PJ.appP (x := (fa, fb)) (hJ.call (by (repeat (first | (with_reducible exact Below.refl _ _) | (with_reducible assumption) | (with_reducible apply bd) | (with_reducible apply ba) | (with_reducible refine bp ?_ (by first | omega | (simp [pad_size]; done) | (simp [pad_size]; omega)) _ _) | (with_reducible refine bs ?_ (by first | omega | (simp [pad_size]; done) | (simp [pad_size]; omega)) _) | (with_reducible refine bt ?_ (by assumption)))))) hL _ _ rfl rfl (g := m1) rfl (((cells_of_block (al_at (by simp [pad_size]))).1 0).trans rfl) ?_; intro p1 w1 hJ1))
      obtain ⟨pa1, pc1, rfl⟩ := row_slice hJ1.rp
      have hJ2 := hJ1
      go_upto_region 7 with fail
      go_region_held2 (fun X => X.cell? ⟨blk, off + k * 8, none⟩ = some (.int .u64 a0) ∧ X.cell? ⟨blk, off + k * 8 + 1, none⟩ = some (.int .u64 a1) ∧ X.cell? ⟨blk, off + k * 8 + 2, none⟩ = some (.int .u64 a2) ∧ X.cell? ⟨blk, off + k * 8 + 3, none⟩ = some (.int .u64 a3) ∧ X.cell? ⟨blk, off + k * 8 + 4, none⟩ = some (.int .u64 b0) ∧ X.cell? ⟨blk, off + k * 8 + 5, none⟩ = some (.int .u64 b1) ∧ X.cell? ⟨blk, off + k * 8 + 6, none⟩ = some (.int .u64 b2) ∧ X.cell? ⟨blk, off + k * 8 + 7, none⟩ = some (.int .u64 b3)) (first | (with_reducible exact hK.out _ (PJ.below (by assumption))) | exact hK.out _ (bt hJ2.below (by (repeat (first | (with_reducible exact Below.refl _ _) | (with_reducible assumption) | (with_reducible apply bd) | (with_reducible apply ba) | (with_reducible refine bp ?_ (by first | omega | (simp [pad_size]; done) | (simp [pad_size]; omega)) _ _) | (with_reducible refine bs ?_ (by first | omega | (simp [pad_size]; done) | (simp [pad_size]; omega)) _) | (with_reducible refine bt ?_ (by assumption))))))) (first
        | (go_at_call 13; with_reducible refine (hA _).mono ?_; rintro e w' ⟨rfl, hb⟩; obtain ⟨m2, g2, d2, hm2, rfl⟩ := pad_of hb; clear hb; (try simp [pad_size] at hm2))
        | (go_at_call 13; with_reducible refine (hB _).mono ?_; rintro e w' ⟨rfl, hb⟩; obtain ⟨m3, g3, d3, hm3, rfl⟩ := pad_of hb; clear hb; (try simp [pad_size] at hm3))
        | (rw [if_pos (by rfl)]; refine PJ.appQ (x := (fa, fb)) (hJ2.call (by (repeat (first | (with_reducible exact Below.refl _ _) | (with_reducible assumption) | (with_reducible apply bd) | (with_reducible apply ba) | (with_reducible refine bp ?_ (by first | omega | (simp [pad_size]; done) | (simp [pad_size]; omega)) _ _) | (with_reducible refine bs ?_ (by first | omega | (simp [pad_size]; done) | (simp [pad_size]; omega)) _) | (with_reducible refine bt ?_ (by assumption)))))) hL _ _ rfl rfl (g := m3) rfl (((cells_of_block (al_at (by simp [pad_size]))).1 0).trans rfl) (((cells_of_block (al_at (by simp [pad_size]))).1 1).trans rfl) ?_; intro p2 w2 hJ3)
        | (rw [if_pos (by rfl)]; refine PJ.appQ (x := (fa, fb)) (hJ2.call (by (repeat (first | (with_reducible exact Below.refl _ _) | (with_reducible assumption) | (with_reducible apply bd) | (with_reducible apply ba) | (with_reducible refine bp ?_ (by first | omega | (simp [pad_size]; done) | (simp [pad_size]; omega)) _ _) | (with_reducible refine bs ?_ (by first | omega | (simp [pad_size]; done) | (simp [pad_size]; omega)) _) | (with_reducible refine bt ?_ (by assumption)))))) hL _ _ rfl rfl (g := m2) rfl (((cells_of_block (al_at (by simp [pad_size]))).1 0).trans rfl) (((cells_of_block (al_at (by simp [pad_size]))).1 1).trans rfl) ?_; intro p2 w2 hJ3))
      all_goals go_wp2
      all_goals go_roundw
      case rel => exact ⟨k + 1, by omega, by go_num, by rw [hnext.out]; have e : (L ++ [(fa, fb)]).length = L.length + 1 := (by simp); rw [e] at hJ3; exact hJ3⟩
      case measure => (simp [intOf] <;> omega)
    · have hkn : k = len := by omega
      have e : l.take k = l := by rw [hkn, ← hln, List.take_length]
      rw [e] at hJ
      have hdl : decide ((k : Int) < (len : Int)) = false := by simpa using hlt
      go_wp2
      refine bodyPost_ret (v := .tuple #[_, _]) (by simp only [results, Try.results18]; go_simp) rfl ⟨_, _, rfl, hJ⟩
end Go.Proofs.Ytjildnmcjggfaaa
