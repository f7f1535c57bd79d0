
/- Several texts, one behind the other: VE6, VE8. -/
import Derived.Test.YtmfnfnegnfpkiaaPN1
import Derived.Deep.CutRange
import Derived.Test.YtmfnfnegnfpkiaaC10
/- The reference's Vested of a plan of kind 1 between its start and its end: the walk. -/
set_option linter.unusedSimpArgs false
set_option linter.unusedVariables false
set_option maxRecDepth 20000
namespace Go.Proofs.Ytmfnfnegnfpkiaa
open Go.RowKit

section
variable {s t u : Int} {a1 a2 : Option Addr} {c1 c2 : Nat} {al : List Cn} {pl : List Pd}
set_option maxRecDepth 100000 in
set_option maxHeartbeats 16000000 in
theorem vestedR_mid (w : World) (h : PnAt w ⟨1, s, u, .slice a1 al.length c1, .slice a2 pl.length c2, al, pl⟩) (ho : PnOk ⟨1, s, u, .slice a1 al.length c1, .slice a2 pl.length c2, al, pl⟩) (hr : PnR ⟨1, s, u, .slice a1 al.length c1, .slice a2 pl.length c2, al, pl⟩) (h1 : s < t) (h2 : t < u) :
    Calls Try.prog 19 #[.agg #[.int .u8 1, .int .u64 s, .int .u64 u, .slice a1 al.length c1, .slice a2 pl.length c2], .int .u64 t] w fun e w' => ∃ u', e = .returned u' ∧ IsCoins w' u' (lst (ofV (t - s) (u - s) al) 8) ∧ Below w.heap.size w w' := by
  have hpad := pads
  have hb : Below w.heap.size w (w.alloc (.cells #[.int .u8 1, .int .u64 s, .int .u64 u, .slice a1 al.length c1, .slice a2 pl.length c2] 26)) := ba (Below.refl _ _) _
  have hkeep : Hid (∀ X, Below (w.alloc (.cells #[.int .u8 1, .int .u64 s, .int .u64 u, .slice a1 al.length c1, .slice a2 pl.length c2] 26)).heap.size (w.alloc (.cells #[.int .u8 1, .int .u64 s, .int .u64 u, .slice a1 al.length c1, .slice a2 pl.length c2] 26)) X → X.cell? ⟨w.heap.size, 1, none⟩ = some (.int .u64 s) ∧ X.cell? ⟨w.heap.size, 2, none⟩ = some (.int .u64 u) ∧ X.cell? ⟨w.heap.size, 3, none⟩ = some (.slice a1 al.length c1)) := fun X hX => by
    have q1 := (hX.block w.heap.size (by simp)).trans (al_at rfl)
    exact ⟨(cells_of_block q1).1 1, (cells_of_block q1).1 2, (cells_of_block q1).1 3⟩
  have hk0 : Hid ((w.alloc (.cells #[.int .u8 1, .int .u64 s, .int .u64 u, .slice a1 al.length c1, .slice a2 pl.length c2] 26)).cell? ⟨w.heap.size, 0, none⟩ = some (.int .u8 1) ∧ (w.alloc (.cells #[.int .u8 1, .int .u64 s, .int .u64 u, .slice a1 al.length c1, .slice a2 pl.length c2] 26)).cell? ⟨w.heap.size, 4, none⟩ = some (.slice a2 pl.length c2)) := by
    have q1 : (w.alloc (.cells #[.int .u8 1, .int .u64 s, .int .u64 u, .slice a1 al.length c1, .slice a2 pl.length c2] 26)).heap[w.heap.size]? = some (.cells #[.int .u8 1, .int .u64 s, .int .u64 u, .slice a1 al.length c1, .slice a2 pl.length c2] 26 (0, 0)) := al_at rfl
    exact ⟨(cells_of_block q1).1 0, (cells_of_block q1).1 4⟩
  have hwf : ∀ x ∈ al, CnWf x := ho.w.al
  have hws := ho.w.s
  have hwu := ho.w.e
  have hlst := amP_lst hr.al
  have hbel := fun x hx => lst_below (amP_purse ho.w.al) x hx
  simp only at hws hwu hlst
  rw [hlst] at hbel
  have hll : al.length ≤ 8 := by rw [← hlst]; exact lst_len _ 8
  have hA : Hid (∀ i x, al[i]? = some x → ∃ blk off, a1 = some ⟨blk, off, none⟩ ∧ blk < w.heap.size ∧ CnAt w blk (off + i * 5) x) := by
    have h3 := h.1
    simp only at h3
    rcases h3 with ⟨rfl, -⟩ | ⟨blk, off, cap, ev, hne, _, hbl, hall⟩
    · intro i x hi; simp at hi
    · simp at ev
      obtain ⟨rfl, rfl⟩ := ev
      exact fun i x hi => ⟨blk, off, rfl, hbl, hall i x hi⟩
  have hlen' : (al.length : Int) ≤ 8 := by omega
  have hP0 : (w.alloc (.cells #[.int .u8 1, .int .u64 s, .int .u64 u, .slice a1 al.length c1, .slice a2 pl.length c2] 26)).heap.size = w.heap.size + 1 := by simp
  have hw1 : IntKind.u64.wrap (t - s) = t - s := by rw [IntKind.wrap_u64]; omega
  have hw2 : IntKind.u64.wrap (u - s) = u - s := by rw [IntKind.wrap_u64]; omega
  have hn1 : ¬ t ≤ s := by omega
  have hn2 : ¬ u ≤ t := by omega
  clear h ho hr hlst
  go_enter Try.func19, Try.ntmps19
  go_upto_region 1 with fail
  generalize w.alloc (.cells #[.int .u8 1, .int .u64 s, .int .u64 u, .slice a1 al.length c1, .slice a2 pl.length c2] 26) = P at *
  have hPh : Hid _ := hP0
  have hPw : w.heap.size < P.heap.size := by omega
  clear hP0
  obtain ⟨b1, b2, b3⟩ := hkeep.out P (Below.refl _ _)
  obtain ⟨b0, b4⟩ := hk0.out
  go_wp2
  go_loopw [6] (fun i wr => ∃ (k m : Nat) (g : Nat → Obj) (dr : Nat) (z : Nat → Cn), k ≤ al.length ∧ i = .int .i64 k ∧ Hid (z = ofV (t - s) (u - s) (al.take k)) ∧ P.heap.size + 1 ≤ m ∧ wr = pad (P.alloc (.cells #[.int .u64 (z 0).a, .int .u64 (z 0).b, .int .u64 (z 0).c, .int .u64 (z 0).e, .int .u64 (z 1).a, .int .u64 (z 1).b, .int .u64 (z 1).c, .int .u64 (z 1).e, .int .u64 (z 2).a, .int .u64 (z 2).b, .int .u64 (z 2).c, .int .u64 (z 2).e, .int .u64 (z 3).a, .int .u64 (z 3).b, .int .u64 (z 3).c, .int .u64 (z 3).e, .int .u64 (z 4).a, .int .u64 (z 4).b, .int .u64 (z 4).c, .int .u64 (z 4).e, .int .u64 (z 5).a, .int .u64 (z 5).b, .int .u64 (z 5).c, .int .u64 (z 5).e, .int .u64 (z 6).a, .int .u64 (z 6).b, .int .u64 (z 6).c, .int .u64 (z 6).e, .int .u64 (z 7).a, .int .u64 (z 7).b, .int .u64 (z 7).c, .int .u64 (z 7).e] 83)) m g dr) (fun i _ => al.length - (intOf i).toNat)
  case atStart =>
    obtain ⟨m, g, dr, hm, e⟩ := pad_of (Below.refl _ (P.alloc (.cells #[.int .u64 0, .int .u64 0, .int .u64 0, .int .u64 0, .int .u64 0, .int .u64 0, .int .u64 0, .int .u64 0, .int .u64 0, .int .u64 0, .int .u64 0, .int .u64 0, .int .u64 0, .int .u64 0, .int .u64 0, .int .u64 0, .int .u64 0, .int .u64 0, .int .u64 0, .int .u64 0, .int .u64 0, .int .u64 0, .int .u64 0, .int .u64 0, .int .u64 0, .int .u64 0, .int .u64 0, .int .u64 0, .int .u64 0, .int .u64 0, .int .u64 0, .int .u64 0] 83)))
    refine ⟨0, m, g, dr, zeroP, Nat.zero_le _, rfl, rfl, by simpa using hm, ?_⟩
    simp only [zeroP_a]
    exact e
  case round =>
    obtain ⟨k, m, g, dr, z, hk, rfl, hz, hm, rfl⟩ := hrel
    have st := sz1 (n := P.heap.size) (m := m) hm
    have hPX : Below P.heap.size P (pad (P.alloc (.cells #[.int .u64 (z 0).a, .int .u64 (z 0).b, .int .u64 (z 0).c, .int .u64 (z 0).e, .int .u64 (z 1).a, .int .u64 (z 1).b, .int .u64 (z 1).c, .int .u64 (z 1).e, .int .u64 (z 2).a, .int .u64 (z 2).b, .int .u64 (z 2).c, .int .u64 (z 2).e, .int .u64 (z 3).a, .int .u64 (z 3).b, .int .u64 (z 3).c, .int .u64 (z 3).e, .int .u64 (z 4).a, .int .u64 (z 4).b, .int .u64 (z 4).c, .int .u64 (z 4).e, .int .u64 (z 5).a, .int .u64 (z 5).b, .int .u64 (z 5).c, .int .u64 (z 5).e, .int .u64 (z 6).a, .int .u64 (z 6).b, .int .u64 (z 6).c, .int .u64 (z 6).e, .int .u64 (z 7).a, .int .u64 (z 7).b, .int .u64 (z 7).c, .int .u64 (z 7).e] 83)) m g dr) := by (repeat (first | (with_reducible exact Below.refl _ _) | (with_reducible assumption) | (with_reducible apply bd) | (with_reducible apply ba) | (with_reducible refine bp ?_ (by first | omega | (simp [pad_size]; done) | (simp [pad_size]; omega)) _ _) | (with_reducible refine bs ?_ (by first | omega | (simp [pad_size]; done) | (simp [pad_size]; omega)) _) | (with_reducible refine bt ?_ (by assumption))))
    obtain ⟨q1, q2, q3⟩ := hkeep.out _ hPX
    by_cases hkl : k < al.length
    · have hkl' : (k : Int) < (al.length : Int) := by omega
      obtain ⟨blk, off, rfl, hbl, hC⟩ := hA.out k al[k] (List.getElem?_eq_getElem hkl)
      obtain ⟨hd0, hd1⟩ := hbel al[k] (List.getElem_mem hkl)
      have hxw := hwf al[k] (List.getElem_mem hkl)
      have htk : Hid (ofV (t - s) (u - s) (al.take (k + 1)) = putP (ofV (t - s) (u - s) (al.take k)) (al[k].d.toNat % 8) (prt (t - s) (u - s) al[k])) := by
        unfold Hid; rw [List.take_succ_eq_append_getElem hkl, ofV_snoc]
      have hlm : blk < m := by omega
      generalize al[k] = x at *
      have hks : Hid (∀ X, Below P.heap.size P X → X.cell? ⟨w.heap.size, 1, none⟩ = some (.int .u64 s) ∧ X.cell? ⟨w.heap.size, 2, none⟩ = some (.int .u64 u) ∧ X.cell? ⟨w.heap.size, 3, none⟩ = some (.slice (some ⟨blk, off, none⟩) al.length c1) ∧ X.cell? ⟨blk, off + k * 5, none⟩ = some (.int .u8 x.d) ∧ X.cell? ⟨blk, off + k * 5 + 1, none⟩ = some (.int .u64 x.a) ∧ X.cell? ⟨blk, off + k * 5 + 2, none⟩ = some (.int .u64 x.b) ∧ X.cell? ⟨blk, off + k * 5 + 3, none⟩ = some (.int .u64 x.c) ∧ X.cell? ⟨blk, off + k * 5 + 4, none⟩ = some (.int .u64 x.e)) := fun X hX => by
        obtain ⟨e1, e2, e3⟩ := hkeep.out X hX
        obtain ⟨g0, g1, g2, g3, g4⟩ := hC
        have hbw : Below w.heap.size w X := bt hb hX
        exact ⟨e1, e2, e3, (hbw.cell (p := ⟨blk, _, none⟩) hbl).trans g0, (hbw.cell (p := ⟨blk, _, none⟩) hbl).trans g1, (hbw.cell (p := ⟨blk, _, none⟩) hbl).trans g2, (hbw.cell (p := ⟨blk, _, none⟩) hbl).trans g3, (hbw.cell (p := ⟨blk, _, none⟩) hbl).trans g4⟩
      obtain ⟨j, hj⟩ : ∃ j : Nat, Hid (x.d = j) := ⟨x.d.toNat, by unfold Hid; omega⟩
      have hj8 : j < 8 := by have := hj.out; omega
      have hM : Hid (Says 51 #[.agg #[.int .u64 x.a, .int .u64 x.b, .int .u64 x.c, .int .u64 x.e], .agg #[.int .u64 (t - s), .int .u64 0, .int .u64 0, .int .u64 0], .agg #[.int .u64 (u - s), .int .u64 0, .int .u64 0, .int .u64 0], .bool false] (.tuple #[.agg #[.int .u64 (prt (t - s) (u - s) x).a, .int .u64 (prt (t - s) (u - s) x).b, .int .u64 (prt (t - s) (u - s) x).c, .int .u64 (prt (t - s) (u - s) x).e], .int .i64 0])) := says_part hxw.2 (by omega) (by omega) (by omega) x.d.toNat
      obtain ⟨kk, hkk⟩ : ∃ kk : Nat, Hid (kk = k + 1) := ⟨_, rfl⟩
      have hn : Hid (∀ z', z' = putP z j (prt (t - s) (u - s) x) → z' = ofV (t - s) (u - s) (al.take kk)) := by
        intro z' e'; rw [e', hkk.out, htk.out, hz.out, hj.out]
        have e9 : (j : Int).toNat % 8 = j := by omega
        rw [e9]
      rw [hj.out] at hks
      generalize prt (t - s) (u - s) x = y at *
      clear htk hwf hC hbel hA hd0 hd1 hxw
      rcases (show j = 0 ∨ j = 1 ∨ j = 2 ∨ j = 3 ∨ j = 4 ∨ j = 5 ∨ j = 6 ∨ j = 7 by omega) with rfl | rfl | rfl | rfl | rfl | rfl | rfl | rfl
      · skip
        clear hj8 hj
        have hcast : ((0 : Nat) : Int) = 0 := rfl
        rw [hcast] at hks
        go_upto_region 11 with fail
        go_region_held2 (fun X => X.cell? ⟨w.heap.size, 1, none⟩ = some (.int .u64 s) ∧ X.cell? ⟨w.heap.size, 2, none⟩ = some (.int .u64 u) ∧ X.cell? ⟨w.heap.size, 3, none⟩ = some (.slice (some ⟨blk, off, none⟩) al.length c1) ∧ X.cell? ⟨blk, off + k * 5, none⟩ = some (.int .u8 0) ∧ X.cell? ⟨blk, off + k * 5 + 1, none⟩ = some (.int .u64 x.a) ∧ X.cell? ⟨blk, off + k * 5 + 2, none⟩ = some (.int .u64 x.b) ∧ X.cell? ⟨blk, off + k * 5 + 3, none⟩ = some (.int .u64 x.c) ∧ X.cell? ⟨blk, off + k * 5 + 4, none⟩ = some (.int .u64 x.e)) (exact hks.out _ (by (repeat (first | (with_reducible exact Below.refl _ _) | (with_reducible assumption) | (with_reducible apply bd) | (with_reducible apply ba) | (with_reducible refine bp ?_ (by first | omega | (simp [pad_size]; done) | (simp [pad_size]; omega)) _ _) | (with_reducible refine bs ?_ (by first | omega | (simp [pad_size]; done) | (simp [pad_size]; omega)) _) | (with_reducible refine bt ?_ (by assumption)))))) (first
          | (go_at_call 52; with_reducible refine ((says_small (t - s)).at _).mono ?_; rintro e wq ⟨rfl, hb9⟩; obtain ⟨m1, g1, d1, hm1, rfl⟩ := pad_of (bt (bp (Below.refl _ _) (by first | (simp; omega) | (simp; done)) _ _) hb9); clear hb9; simp [pad_size] at hm1; (try have st1 := sz1 (n := P.heap.size) (m := m1) (by omega)))
          | (go_at_call 52; with_reducible refine ((says_small (u - s)).at _).mono ?_; rintro e wq ⟨rfl, hb9⟩; obtain ⟨m2, g2, d2, hm2, rfl⟩ := pad_of (bt (bp (Below.refl _ _) (by first | (simp; omega) | (simp; done)) _ _) hb9); clear hb9; simp [pad_size] at hm2; (try have st2 := sz1 (n := P.heap.size) (m := m2) (by omega)))
          | (go_at_call 51; with_reducible refine (Says.at hM.out _).mono ?_; rintro e wq ⟨rfl, hb9⟩; obtain ⟨m3, g3, d3, hm3, rfl⟩ := pad_of (bt (bp (Below.refl _ _) (by first | (simp; omega) | (simp; done)) _ _) hb9); clear hb9; simp [pad_size] at hm3; (try have st3 := sz1 (n := P.heap.size) (m := m3) (by omega))))
        all_goals go_wp2_with fail
        all_goals go_roundw
        case rel =>
          have e := hkk.out
          refine ⟨kk, m3, g3, d3, putP z 0 y, by omega, by rw [e]; go_num, hn.out _ rfl, by omega, ?_⟩
          simp [putP]
          first | rfl | done
        case measure => (simp [intOf] <;> omega)
      · skip
        clear hj8 hj
        have hcast : ((1 : Nat) : Int) = 1 := rfl
        rw [hcast] at hks
        go_upto_region 11 with fail
        go_region_held2 (fun X => X.cell? ⟨w.heap.size, 1, none⟩ = some (.int .u64 s) ∧ X.cell? ⟨w.heap.size, 2, none⟩ = some (.int .u64 u) ∧ X.cell? ⟨w.heap.size, 3, none⟩ = some (.slice (some ⟨blk, off, none⟩) al.length c1) ∧ X.cell? ⟨blk, off + k * 5, none⟩ = some (.int .u8 1) ∧ X.cell? ⟨blk, off + k * 5 + 1, none⟩ = some (.int .u64 x.a) ∧ X.cell? ⟨blk, off + k * 5 + 2, none⟩ = some (.int .u64 x.b) ∧ X.cell? ⟨blk, off + k * 5 + 3, none⟩ = some (.int .u64 x.c) ∧ X.cell? ⟨blk, off + k * 5 + 4, none⟩ = some (.int .u64 x.e)) (exact hks.out _ (by (repeat (first | (with_reducible exact Below.refl _ _) | (with_reducible assumption) | (with_reducible apply bd) | (with_reducible apply ba) | (with_reducible refine bp ?_ (by first | omega | (simp [pad_size]; done) | (simp [pad_size]; omega)) _ _) | (with_reducible refine bs ?_ (by first | omega | (simp [pad_size]; done) | (simp [pad_size]; omega)) _) | (with_reducible refine bt ?_ (by assumption)))))) (first
          | (go_at_call 52; with_reducible refine ((says_small (t - s)).at _).mono ?_; rintro e wq ⟨rfl, hb9⟩; obtain ⟨m1, g1, d1, hm1, rfl⟩ := pad_of (bt (bp (Below.refl _ _) (by first | (simp; omega) | (simp; done)) _ _) hb9); clear hb9; simp [pad_size] at hm1; (try have st1 := sz1 (n := P.heap.size) (m := m1) (by omega)))
          | (go_at_call 52; with_reducible refine ((says_small (u - s)).at _).mono ?_; rintro e wq ⟨rfl, hb9⟩; obtain ⟨m2, g2, d2, hm2, rfl⟩ := pad_of (bt (bp (Below.refl _ _) (by first | (simp; omega) | (simp; done)) _ _) hb9); clear hb9; simp [pad_size] at hm2; (try have st2 := sz1 (n := P.heap.size) (m := m2) (by omega)))
          | (go_at_call 51; with_reducible refine (Says.at hM.out _).mono ?_; rintro e wq ⟨rfl, hb9⟩; obtain ⟨m3, g3, d3, hm3, rfl⟩ := pad_of (bt (bp (Below.refl _ _) (by first | (simp; omega) | (simp; done)) _ _) hb9); clear hb9; simp [pad_size] at hm3; (try have st3 := sz1 (n := P.heap.size) (m := m3) (by omega))))
        all_goals go_wp2_with fail
        all_goals go_roundw
        case rel =>
          have e := hkk.out
          refine ⟨kk, m3, g3, d3, putP z 1 y, by omega, by rw [e]; go_num, hn.out _ rfl, by omega, ?_⟩
          simp [putP]
          first | rfl | done
        case measure => (simp [intOf] <;> omega)
      · skip
        clear hj8 hj
        have hcast : ((2 : Nat) : Int) = 2 := rfl
        rw [hcast] at hks
        go_upto_region 11 with fail
        go_region_held2 (fun X => X.cell? ⟨w.heap.size, 1, none⟩ = some (.int .u64 s) ∧ X.cell? ⟨w.heap.size, 2, none⟩ = some (.int .u64 u) ∧ X.cell? ⟨w.heap.size, 3, none⟩ = some (.slice (some ⟨blk, off, none⟩) al.length c1) ∧ X.cell? ⟨blk, off + k * 5, none⟩ = some (.int .u8 2) ∧ X.cell? ⟨blk, off + k * 5 + 1, none⟩ = some (.int .u64 x.a) ∧ X.cell? ⟨blk, off + k * 5 + 2, none⟩ = some (.int .u64 x.b) ∧ X.cell? ⟨blk, off + k * 5 + 3, none⟩ = some (.int .u64 x.c) ∧ X.cell? ⟨blk, off + k * 5 + 4, none⟩ = some (.int .u64 x.e)) (exact hks.out _ (by (repeat (first | (with_reducible exact Below.refl _ _) | (with_reducible assumption) | (with_reducible apply bd) | (with_reducible apply ba) | (with_reducible refine bp ?_ (by first | omega | (simp [pad_size]; done) | (simp [pad_size]; omega)) _ _) | (with_reducible refine bs ?_ (by first | omega | (simp [pad_size]; done) | (simp [pad_size]; omega)) _) | (with_reducible refine bt ?_ (by assumption)))))) (first
          | (go_at_call 52; with_reducible refine ((says_small (t - s)).at _).mono ?_; rintro e wq ⟨rfl, hb9⟩; obtain ⟨m1, g1, d1, hm1, rfl⟩ := pad_of (bt (bp (Below.refl _ _) (by first | (simp; omega) | (simp; done)) _ _) hb9); clear hb9; simp [pad_size] at hm1; (try have st1 := sz1 (n := P.heap.size) (m := m1) (by omega)))
          | (go_at_call 52; with_reducible refine ((says_small (u - s)).at _).mono ?_; rintro e wq ⟨rfl, hb9⟩; obtain ⟨m2, g2, d2, hm2, rfl⟩ := pad_of (bt (bp (Below.refl _ _) (by first | (simp; omega) | (simp; done)) _ _) hb9); clear hb9; simp [pad_size] at hm2; (try have st2 := sz1 (n := P.heap.size) (m := m2) (by omega)))
          | (go_at_call 51; with_reducible refine (Says.at hM.out _).mono ?_; rintro e wq ⟨rfl, hb9⟩; obtain ⟨m3, g3, d3, hm3, rfl⟩ := pad_of (bt (bp (Below.refl _ _) (by first | (simp; omega) | (simp; done)) _ _) hb9); clear hb9; simp [pad_size] at hm3; (try have st3 := sz1 (n := P.heap.size) (m := m3) (by omega))))
        all_goals go_wp2_with fail
        all_goals go_roundw
        case rel =>
          have e := hkk.out
          refine ⟨kk, m3, g3, d3, putP z 2 y, by omega, by rw [e]; go_num, hn.out _ rfl, by omega, ?_⟩
          simp [putP]
          first | rfl | done
        case measure => (simp [intOf] <;> omega)
      · skip
        clear hj8 hj
        have hcast : ((3 : Nat) : Int) = 3 := rfl
        rw [hcast] at hks
        go_upto_region 11 with fail
        go_region_held2 (fun X => X.cell? ⟨w.heap.size, 1, none⟩ = some (.int .u64 s) ∧ X.cell? ⟨w.heap.size, 2, none⟩ = some (.int .u64 u) ∧ X.cell? ⟨w.heap.size, 3, none⟩ = some (.slice (some ⟨blk, off, none⟩) al.length c1) ∧ X.cell? ⟨blk, off + k * 5, none⟩ = some (.int .u8 3) ∧ X.cell? ⟨blk, off + k * 5 + 1, none⟩ = some (.int .u64 x.a) ∧ X.cell? ⟨blk, off + k * 5 + 2, none⟩ = some (.int .u64 x.b) ∧ X.cell? ⟨blk, off + k * 5 + 3, none⟩ = some (.int .u64 x.c) ∧ X.cell? ⟨blk, off + k * 5 + 4, none⟩ = some (.int .u64 x.e)) (exact hks.out _ (by (repeat (first | (with_reducible exact Below.refl _ _) | (with_reducible assumption) | (with_reducible apply bd) | (with_reducible apply ba) | (with_reducible refine bp ?_ (by first | omega | (simp [pad_size]; done) | (simp [pad_size]; omega)) _ _) | (with_reducible refine bs ?_ (by first | omega | (simp [pad_size]; done) | (simp [pad_size]; omega)) _) | (with_reducible refine bt ?_ (by assumption)))))) (first
          | (go_at_call 52; with_reducible refine ((says_small (t - s)).at _).mono ?_; rintro e wq ⟨rfl, hb9⟩; obtain ⟨m1, g1, d1, hm1, rfl⟩ := pad_of (bt (bp (Below.refl _ _) (by first | (simp; omega) | (simp; done)) _ _) hb9); clear hb9; simp [pad_size] at hm1; (try have st1 := sz1 (n := P.heap.size) (m := m1) (by omega)))
          | (go_at_call 52; with_reducible refine ((says_small (u - s)).at _).mono ?_; rintro e wq ⟨rfl, hb9⟩; obtain ⟨m2, g2, d2, hm2, rfl⟩ := pad_of (bt (bp (Below.refl _ _) (by first | (simp; omega) | (simp; done)) _ _) hb9); clear hb9; simp [pad_size] at hm2; (try have st2 := sz1 (n := P.heap.size) (m := m2) (by omega)))
          | (go_at_call 51; with_reducible refine (Says.at hM.out _).mono ?_; rintro e wq ⟨rfl, hb9⟩; obtain ⟨m3, g3, d3, hm3, rfl⟩ := pad_of (bt (bp (Below.refl _ _) (by first | (simp; omega) | (simp; done)) _ _) hb9); clear hb9; simp [pad_size] at hm3; (try have st3 := sz1 (n := P.heap.size) (m := m3) (by omega))))
        all_goals go_wp2_with fail
        all_goals go_roundw
        case rel =>
          have e := hkk.out
          refine ⟨kk, m3, g3, d3, putP z 3 y, by omega, by rw [e]; go_num, hn.out _ rfl, by omega, ?_⟩
          simp [putP]
          first | rfl | done
        case measure => (simp [intOf] <;> omega)
      · skip
        clear hj8 hj
        have hcast : ((4 : Nat) : Int) = 4 := rfl
        rw [hcast] at hks
        go_upto_region 11 with fail
        go_region_held2 (fun X => X.cell? ⟨w.heap.size, 1, none⟩ = some (.int .u64 s) ∧ X.cell? ⟨w.heap.size, 2, none⟩ = some (.int .u64 u) ∧ X.cell? ⟨w.heap.size, 3, none⟩ = some (.slice (some ⟨blk, off, none⟩) al.length c1) ∧ X.cell? ⟨blk, off + k * 5, none⟩ = some (.int .u8 4) ∧ X.cell? ⟨blk, off + k * 5 + 1, none⟩ = some (.int .u64 x.a) ∧ X.cell? ⟨blk, off + k * 5 + 2, none⟩ = some (.int .u64 x.b) ∧ X.cell? ⟨blk, off + k * 5 + 3, none⟩ = some (.int .u64 x.c) ∧ X.cell? ⟨blk, off + k * 5 + 4, none⟩ = some (.int .u64 x.e)) (exact hks.out _ (by (repeat (first | (with_reducible exact Below.refl _ _) | (with_reducible assumption) | (with_reducible apply bd) | (with_reducible apply ba) | (with_reducible refine bp ?_ (by first | omega | (simp [pad_size]; done) | (simp [pad_size]; omega)) _ _) | (with_reducible refine bs ?_ (by first | omega | (simp [pad_size]; done) | (simp [pad_size]; omega)) _) | (with_reducible refine bt ?_ (by assumption)))))) (first
          | (go_at_call 52; with_reducible refine ((says_small (t - s)).at _).mono ?_; rintro e wq ⟨rfl, hb9⟩; obtain ⟨m1, g1, d1, hm1, rfl⟩ := pad_of (bt (bp (Below.refl _ _) (by first | (simp; omega) | (simp; done)) _ _) hb9); clear hb9; simp [pad_size] at hm1; (try have st1 := sz1 (n := P.heap.size) (m := m1) (by omega)))
          | (go_at_call 52; with_reducible refine ((says_small (u - s)).at _).mono ?_; rintro e wq ⟨rfl, hb9⟩; obtain ⟨m2, g2, d2, hm2, rfl⟩ := pad_of (bt (bp (Below.refl _ _) (by first | (simp; omega) | (simp; done)) _ _) hb9); clear hb9; simp [pad_size] at hm2; (try have st2 := sz1 (n := P.heap.size) (m := m2) (by omega)))
          | (go_at_call 51; with_reducible refine (Says.at hM.out _).mono ?_; rintro e wq ⟨rfl, hb9⟩; obtain ⟨m3, g3, d3, hm3, rfl⟩ := pad_of (bt (bp (Below.refl _ _) (by first | (simp; omega) | (simp; done)) _ _) hb9); clear hb9; simp [pad_size] at hm3; (try have st3 := sz1 (n := P.heap.size) (m := m3) (by omega))))
        all_goals go_wp2_with fail
        all_goals go_roundw
        case rel =>
          have e := hkk.out
          refine ⟨kk, m3, g3, d3, putP z 4 y, by omega, by rw [e]; go_num, hn.out _ rfl, by omega, ?_⟩
          simp [putP]
          first | rfl | done
        case measure => (simp [intOf] <;> omega)
      · skip
        clear hj8 hj
        have hcast : ((5 : Nat) : Int) = 5 := rfl
        rw [hcast] at hks
        go_upto_region 11 with fail
        go_region_held2 (fun X => X.cell? ⟨w.heap.size, 1, none⟩ = some (.int .u64 s) ∧ X.cell? ⟨w.heap.size, 2, none⟩ = some (.int .u64 u) ∧ X.cell? ⟨w.heap.size, 3, none⟩ = some (.slice (some ⟨blk, off, none⟩) al.length c1) ∧ X.cell? ⟨blk, off + k * 5, none⟩ = some (.int .u8 5) ∧ X.cell? ⟨blk, off + k * 5 + 1, none⟩ = some (.int .u64 x.a) ∧ X.cell? ⟨blk, off + k * 5 + 2, none⟩ = some (.int .u64 x.b) ∧ X.cell? ⟨blk, off + k * 5 + 3, none⟩ = some (.int .u64 x.c) ∧ X.cell? ⟨blk, off + k * 5 + 4, none⟩ = some (.int .u64 x.e)) (exact hks.out _ (by (repeat (first | (with_reducible exact Below.refl _ _) | (with_reducible assumption) | (with_reducible apply bd) | (with_reducible apply ba) | (with_reducible refine bp ?_ (by first | omega | (simp [pad_size]; done) | (simp [pad_size]; omega)) _ _) | (with_reducible refine bs ?_ (by first | omega | (simp [pad_size]; done) | (simp [pad_size]; omega)) _) | (with_reducible refine bt ?_ (by assumption)))))) (first
          | (go_at_call 52; with_reducible refine ((says_small (t - s)).at _).mono ?_; rintro e wq ⟨rfl, hb9⟩; obtain ⟨m1, g1, d1, hm1, rfl⟩ := pad_of (bt (bp (Below.refl _ _) (by first | (simp; omega) | (simp; done)) _ _) hb9); clear hb9; simp [pad_size] at hm1; (try have st1 := sz1 (n := P.heap.size) (m := m1) (by omega)))
          | (go_at_call 52; with_reducible refine ((says_small (u - s)).at _).mono ?_; rintro e wq ⟨rfl, hb9⟩; obtain ⟨m2, g2, d2, hm2, rfl⟩ := pad_of (bt (bp (Below.refl _ _) (by first | (simp; omega) | (simp; done)) _ _) hb9); clear hb9; simp [pad_size] at hm2; (try have st2 := sz1 (n := P.heap.size) (m := m2) (by omega)))
          | (go_at_call 51; with_reducible refine (Says.at hM.out _).mono ?_; rintro e wq ⟨rfl, hb9⟩; obtain ⟨m3, g3, d3, hm3, rfl⟩ := pad_of (bt (bp (Below.refl _ _) (by first | (simp; omega) | (simp; done)) _ _) hb9); clear hb9; simp [pad_size] at hm3; (try have st3 := sz1 (n := P.heap.size) (m := m3) (by omega))))
        all_goals go_wp2_with fail
        all_goals go_roundw
        case rel =>
          have e := hkk.out
          refine ⟨kk, m3, g3, d3, putP z 5 y, by omega, by rw [e]; go_num, hn.out _ rfl, by omega, ?_⟩
          simp [putP]
          first | rfl | done
        case measure => (simp [intOf] <;> omega)
      · skip
        clear hj8 hj
        have hcast : ((6 : Nat) : Int) = 6 := rfl
        rw [hcast] at hks
        go_upto_region 11 with fail
        go_region_held2 (fun X => X.cell? ⟨w.heap.size, 1, none⟩ = some (.int .u64 s) ∧ X.cell? ⟨w.heap.size, 2, none⟩ = some (.int .u64 u) ∧ X.cell? ⟨w.heap.size, 3, none⟩ = some (.slice (some ⟨blk, off, none⟩) al.length c1) ∧ X.cell? ⟨blk, off + k * 5, none⟩ = some (.int .u8 6) ∧ X.cell? ⟨blk, off + k * 5 + 1, none⟩ = some (.int .u64 x.a) ∧ X.cell? ⟨blk, off + k * 5 + 2, none⟩ = some (.int .u64 x.b) ∧ X.cell? ⟨blk, off + k * 5 + 3, none⟩ = some (.int .u64 x.c) ∧ X.cell? ⟨blk, off + k * 5 + 4, none⟩ = some (.int .u64 x.e)) (exact hks.out _ (by (repeat (first | (with_reducible exact Below.refl _ _) | (with_reducible assumption) | (with_reducible apply bd) | (with_reducible apply ba) | (with_reducible refine bp ?_ (by first | omega | (simp [pad_size]; done) | (simp [pad_size]; omega)) _ _) | (with_reducible refine bs ?_ (by first | omega | (simp [pad_size]; done) | (simp [pad_size]; omega)) _) | (with_reducible refine bt ?_ (by assumption)))))) (first
          | (go_at_call 52; with_reducible refine ((says_small (t - s)).at _).mono ?_; rintro e wq ⟨rfl, hb9⟩; obtain ⟨m1, g1, d1, hm1, rfl⟩ := pad_of (bt (bp (Below.refl _ _) (by first | (simp; omega) | (simp; done)) _ _) hb9); clear hb9; simp [pad_size] at hm1; (try have st1 := sz1 (n := P.heap.size) (m := m1) (by omega)))
          | (go_at_call 52; with_reducible refine ((says_small (u - s)).at _).mono ?_; rintro e wq ⟨rfl, hb9⟩; obtain ⟨m2, g2, d2, hm2, rfl⟩ := pad_of (bt (bp (Below.refl _ _) (by first | (simp; omega) | (simp; done)) _ _) hb9); clear hb9; simp [pad_size] at hm2; (try have st2 := sz1 (n := P.heap.size) (m := m2) (by omega)))
          | (go_at_call 51; with_reducible refine (Says.at hM.out _).mono ?_; rintro e wq ⟨rfl, hb9⟩; obtain ⟨m3, g3, d3, hm3, rfl⟩ := pad_of (bt (bp (Below.refl _ _) (by first | (simp; omega) | (simp; done)) _ _) hb9); clear hb9; simp [pad_size] at hm3; (try have st3 := sz1 (n := P.heap.size) (m := m3) (by omega))))
        all_goals go_wp2_with fail
        all_goals go_roundw
        case rel =>
          have e := hkk.out
          refine ⟨kk, m3, g3, d3, putP z 6 y, by omega, by rw [e]; go_num, hn.out _ rfl, by omega, ?_⟩
          simp [putP]
          first | rfl | done
        case measure => (simp [intOf] <;> omega)
      · skip
        clear hj8 hj
        have hcast : ((7 : Nat) : Int) = 7 := rfl
        rw [hcast] at hks
        go_upto_region 11 with fail
        go_region_held2 (fun X => X.cell? ⟨w.heap.size, 1, none⟩ = some (.int .u64 s) ∧ X.cell? ⟨w.heap.size, 2, none⟩ = some (.int .u64 u) ∧ X.cell? ⟨w.heap.size, 3, none⟩ = some (.slice (some ⟨blk, off, none⟩) al.length c1) ∧ X.cell? ⟨blk, off + k * 5, none⟩ = some (.int .u8 7) ∧ X.cell? ⟨blk, off + k * 5 + 1, none⟩ = some (.int .u64 x.a) ∧ X.cell? ⟨blk, off + k * 5 + 2, none⟩ = some (.int .u64 x.b) ∧ X.cell? ⟨blk, off + k * 5 + 3, none⟩ = some (.int .u64 x.c) ∧ X.cell? ⟨blk, off + k * 5 + 4, none⟩ = some (.int .u64 x.e)) (exact hks.out _ (by (repeat (first | (with_reducible exact Below.refl _ _) | (with_reducible assumption) | (with_reducible apply bd) | (with_reducible apply ba) | (with_reducible refine bp ?_ (by first | omega | (simp [pad_size]; done) | (simp [pad_size]; omega)) _ _) | (with_reducible refine bs ?_ (by first | omega | (simp [pad_size]; done) | (simp [pad_size]; omega)) _) | (with_reducible refine bt ?_ (by assumption)))))) (first
          | (go_at_call 52; with_reducible refine ((says_small (t - s)).at _).mono ?_; rintro e wq ⟨rfl, hb9⟩; obtain ⟨m1, g1, d1, hm1, rfl⟩ := pad_of (bt (bp (Below.refl _ _) (by first | (simp; omega) | (simp; done)) _ _) hb9); clear hb9; simp [pad_size] at hm1; (try have st1 := sz1 (n := P.heap.size) (m := m1) (by omega)))
          | (go_at_call 52; with_reducible refine ((says_small (u - s)).at _).mono ?_; rintro e wq ⟨rfl, hb9⟩; obtain ⟨m2, g2, d2, hm2, rfl⟩ := pad_of (bt (bp (Below.refl _ _) (by first | (simp; omega) | (simp; done)) _ _) hb9); clear hb9; simp [pad_size] at hm2; (try have st2 := sz1 (n := P.heap.size) (m := m2) (by omega)))
          | (go_at_call 51; with_reducible refine (Says.at hM.out _).mono ?_; rintro e wq ⟨rfl, hb9⟩; obtain ⟨m3, g3, d3, hm3, rfl⟩ := pad_of (bt (bp (Below.refl _ _) (by first | (simp; omega) | (simp; done)) _ _) hb9); clear hb9; simp [pad_size] at hm3; (try have st3 := sz1 (n := P.heap.size) (m := m3) (by omega))))
        all_goals go_wp2_with fail
        all_goals go_roundw
        case rel =>
          have e := hkk.out
          refine ⟨kk, m3, g3, d3, putP z 7 y, by omega, by rw [e]; go_num, hn.out _ rfl, by omega, ?_⟩
          simp [putP]
          first | rfl | done
        case measure => (simp [intOf] <;> omega)
    · have hk' : k = al.length := by omega
      subst hk'
      rw [List.take_length] at hz
      have hp : Purse z := by
        rw [hz.out]
        refine purse_of _ fun y hy => ?_
        obtain ⟨x, hx, rfl⟩ := List.mem_map.1 hy
        have hxw := hwf x hx
        have hq := part_le (a := t - s) (b := u - s) (val_lo hxw.2) (by omega) (by omega) (by omega)
        have hv := val_hi hxw.2
        exact cnOf_lim hq.1 (by unfold vl; omega)
      go_wp2_with (first | (refine wpList_load_row rfl 83 _ rfl P.heap.size rfl 83 #[.int .u64 (z 0).a, .int .u64 (z 0).b, .int .u64 (z 0).c, .int .u64 (z 0).e, .int .u64 (z 1).a, .int .u64 (z 1).b, .int .u64 (z 1).c, .int .u64 (z 1).e, .int .u64 (z 2).a, .int .u64 (z 2).b, .int .u64 (z 2).c, .int .u64 (z 2).e, .int .u64 (z 3).a, .int .u64 (z 3).b, .int .u64 (z 3).c, .int .u64 (z 3).e, .int .u64 (z 4).a, .int .u64 (z 4).b, .int .u64 (z 4).c, .int .u64 (z 4).e, .int .u64 (z 5).a, .int .u64 (z 5).b, .int .u64 (z 5).c, .int .u64 (z 5).e, .int .u64 (z 6).a, .int .u64 (z 6).b, .int .u64 (z 6).c, .int .u64 (z 6).e, .int .u64 (z 7).a, .int .u64 (z 7).b, .int .u64 (z 7).c, .int .u64 (z 7).e] (0, 0) _ (by (repeat (first | (with_reducible exact al_at (by simp [pad_size])) | (with_reducible refine Eq.trans (dr_blk _ _) ?_) | (with_reducible refine Eq.trans (al_old (by first | omega | (simp [pad_size]; done) | (simp [pad_size]; omega))) ?_) | (with_reducible refine Eq.trans (pad_block (by first | omega | (simp [pad_size]; done) | (simp [pad_size]; omega)) (by first | omega | (simp [pad_size]; done) | (simp [pad_size]; omega))) ?_) | (with_reducible assumption)))) Try.underlying83 rfl (by kernel_rfl) ?_) | (go_at_call 53; refine (listR_any z hp _).mono ?_; rintro e w1 ⟨v, rfl, ho, hb1⟩))
      go_ret
      rw [← hz.out]
      exact ⟨_, rfl, own_coins ho (lst8 _), bt hb (bt (by (repeat (first | (with_reducible exact Below.refl _ _) | (with_reducible assumption) | (with_reducible apply bd) | (with_reducible apply ba) | (with_reducible refine bp ?_ (by first | omega | (simp [pad_size]; done) | (simp [pad_size]; omega)) _ _) | (with_reducible refine bs ?_ (by first | omega | (simp [pad_size]; done) | (simp [pad_size]; omega)) _) | (with_reducible refine bt ?_ (by assumption))))) hb1)⟩
end
end Go.Proofs.Ytmfnfnegnfpkiaa

/- The reference's Vested and Locked of plans that may be. -/
namespace Go.Proofs.Ytmfnfnegnfpkiaa
open Go.RowKit
theorem vestedR_any {x : Pn} {t : Int} (w : World) (h : PnAt w x) (ho : PnOk x) (hr : PnR x) (ht : 0 ≤ t ∧ t < 18446744073709551616) :
    GivesI 19 #[pnV x, .int .u64 t] w (lst (vestP x t) 8) := by
  apply GivesI.of
  obtain ⟨k, s, u, av, pv, al, pl⟩ := x
  obtain ⟨a1, c1, e1⟩ := h.1.slice
  obtain ⟨a2, c2, e2⟩ := h.2.slice
  simp only at e1 e2
  subst e1 e2
  have hk := hr.k
  simp only at hk
  rcases hk with rfl | rfl | rfl | rfl | rfl | rfl
  · exact vestedR_no (k := 0) (by omega) (by omega) (by omega) (by omega) w _ _
  · by_cases hm : s < t ∧ t < u
    · have e : vestP ⟨1, s, u, .slice a1 al.length c1, .slice a2 pl.length c2, al, pl⟩ t = evP al (t - s) (u - s) := by
        show (if u ≤ t then amP al else if t ≤ s then zeroP else evP al (t - s) (u - s)) = _
        rw [if_neg (by omega), if_neg (by omega)]
      have e2 := ofV_ev (al := al) ho.w.al hr.al (t - s) (u - s)
      have := vestedR_mid w h ho hr hm.1 hm.2
      rw [e2] at this
      rw [e]
      exact this
    · have hsu := hr.k1 rfl
      simp only at hsu
      have e : vestP ⟨1, s, u, .slice a1 al.length c1, .slice a2 pl.length c2, al, pl⟩ t = if u ≤ t then amP al else zeroP := by
        show (if u ≤ t then amP al else if t ≤ s then zeroP else evP al (t - s) (u - s)) = _
        by_cases h1 : u ≤ t
        · rw [if_pos h1, if_pos h1]
        · rw [if_neg h1, if_neg h1, if_pos (by omega)]
      rw [e]
      exact vestedR_1 w h hr hm
  · exact vestedR_2 w h hr
  · exact vestedR_3 w h ho hr ht
  · exact vestedR_no (k := 4) (by omega) (by omega) (by omega) (by omega) w _ _
  · exact vestedR_5 w h ho hr ht
theorem vestedR_hid {x : Pn} {t : Int} (w : World) (h : PnAt w x) (ho : PnOk x) (hr : PnR x) (ht : 0 ≤ t ∧ t < 18446744073709551616) :
    Hid (∀ X, Below w.heap.size w X → Calls Try.prog 19 #[pnV x, .int .u64 t] X fun e w' => ∃ a n c, e = .returned (.slice a n c) ∧ IsCoins w' (.slice a n c) (lst (vestP x t) 8) ∧ Below X.heap.size X w') := fun X hX => vestedR_any X (h.below hX) ho hr ht
theorem restRC_gives {va vb : Value} {z y : Nat → Cn} (hz : Purse z) (hy : Purse y) (w : World) (hA : IsCoins w va (lst z 8)) (hB : IsCoins w vb (lst y 8)) :
    Calls Try.prog 57 #[va, vb] w fun e w' => ∃ a n c, e = .returned (.slice a n c) ∧ IsCoins w' (.slice a n c) (lst (opP restI z y) 8) ∧ Below w.heap.size w w' := by
  refine (restRC_any hz hy w hA hB).mono ?_
  rintro e w' ⟨u, rfl, h1, h2⟩
  obtain ⟨a, c, rfl⟩ := h1.sl
  exact ⟨a, _, c, rfl, h1, h2⟩
theorem restRK {va vb : Value} {z y : Nat → Cn} {w : World} {Q : Ending → World → Prop} (hz : Purse z) (hy : Purse y) (hA : IsCoins w va (lst z 8)) (hB : IsCoins w vb (lst y 8))
    (hQ : ∀ e w', (∃ a n c, e = .returned (.slice a n c) ∧ IsCoins w' (.slice a n c) (lst (opP restI z y) 8) ∧ Below w.heap.size w w') → Q e w') : Calls Try.prog 57 #[va, vb] w Q :=
  (restRC_gives hz hy w hA hB).mono hQ
set_option maxRecDepth 20000 in
set_option maxHeartbeats 8000000 in
theorem lockedR_any {x : Pn} {t : Int} (w : World) (h : PnAt w x) (ho : PnOk x) (hr : PnR x) (ht : 0 ≤ t ∧ t < 18446744073709551616) :
    GivesI 21 #[pnV x, .int .u64 t] w (lst (lockP x t) 8) := by
  have hpad := pads
  unfold GivesI
  have hV := vestedR_hid w h ho hr ht
  have hA : Hid (∀ X, Below w.heap.size w X → IsCoins X x.av (lst (amP x.al) 8)) := fun X hX => al_coins (h.below hX) hr
  have hz : Hid (Purse (amP x.al)) := amP_purse ho.w.al
  have hy : Hid (Purse (vestP x t)) := vest_purse ho hr t
  have hlk : Hid (opP restI (amP x.al) (vestP x t) = lockP x t) := rfl
  generalize lockP x t = LK at *
  generalize vestP x t = VP at *
  obtain ⟨k, s, u, av, pv, al, pl⟩ := x
  obtain ⟨h1, h2⟩ := h
  simp only at h1 h2 hV hA hz hy hlk
  obtain ⟨a1, c1, rfl⟩ := h1.slice
  obtain ⟨a2, c2, rfl⟩ := h2.slice
  clear ho hr h1 h2
  show Calls Try.prog 21 #[.agg #[.int .u8 k, .int .u64 s, .int .u64 u, .slice a1 al.length c1, .slice a2 pl.length c2], .int .u64 t] w _
  have hV : Hid (∀ X, Below w.heap.size w X → Calls Try.prog 19 #[.agg #[.int .u8 k, .int .u64 s, .int .u64 u, .slice a1 al.length c1, .slice a2 pl.length c2], .int .u64 t] X fun e w' => ∃ a n c, e = .returned (.slice a n c) ∧ IsCoins w' (.slice a n c) (lst VP 8) ∧ Below X.heap.size X w') := hV
  have hb : Below w.heap.size w (w.alloc (.cells #[.int .u8 k, .int .u64 s, .int .u64 u, .slice a1 al.length c1, .slice a2 pl.length c2] 26)) := ba (Below.refl _ _) _
  have hkeep : Hid (∀ X, Below (w.alloc (.cells #[.int .u8 k, .int .u64 s, .int .u64 u, .slice a1 al.length c1, .slice a2 pl.length c2] 26)).heap.size (w.alloc (.cells #[.int .u8 k, .int .u64 s, .int .u64 u, .slice a1 al.length c1, .slice a2 pl.length c2] 26)) X → X.cell? ⟨w.heap.size, 0, none⟩ = some (.int .u8 k) ∧ X.cell? ⟨w.heap.size, 1, none⟩ = some (.int .u64 s) ∧ X.cell? ⟨w.heap.size, 2, none⟩ = some (.int .u64 u) ∧ X.cell? ⟨w.heap.size, 3, none⟩ = some (.slice a1 al.length c1) ∧ X.cell? ⟨w.heap.size, 4, none⟩ = some (.slice a2 pl.length c2)) := fun X hX => by
    have q1 := (hX.block w.heap.size (by simp)).trans (al_at rfl)
    exact ⟨(cells_of_block q1).1 0, (cells_of_block q1).1 1, (cells_of_block q1).1 2, (cells_of_block q1).1 3, (cells_of_block q1).1 4⟩
  go_enter Try.func21, Try.ntmps21
  go_upto_region 1 with fail
  generalize w.alloc (.cells #[.int .u8 k, .int .u64 s, .int .u64 u, .slice a1 al.length c1, .slice a2 pl.length c2] 26) = U at *
  have hbb : Hid (∀ X, Below U.heap.size U X → Below w.heap.size w X) := fun X hX => bt hb hX
  go_region_held2 (fun X => X.cell? ⟨w.heap.size, 0, none⟩ = some (.int .u8 k) ∧ X.cell? ⟨w.heap.size, 1, none⟩ = some (.int .u64 s) ∧ X.cell? ⟨w.heap.size, 2, none⟩ = some (.int .u64 u) ∧ X.cell? ⟨w.heap.size, 3, none⟩ = some (.slice a1 al.length c1) ∧ X.cell? ⟨w.heap.size, 4, none⟩ = some (.slice a2 pl.length c2)) (exact hkeep.out _ (by (repeat (first | (with_reducible exact Below.refl _ _) | (with_reducible assumption) | (with_reducible apply bd) | (with_reducible apply ba) | (with_reducible refine bp ?_ (by first | omega | (simp [pad_size]; done) | (simp [pad_size]; omega)) _ _) | (with_reducible refine bs ?_ (by first | omega | (simp [pad_size]; done) | (simp [pad_size]; omega)) _) | (with_reducible refine bt ?_ (by assumption)))))) (first
    | (go_at_call 19; refine (hV.out _ (hbb.out _ (by (repeat (first | (with_reducible exact Below.refl _ _) | (with_reducible assumption) | (with_reducible apply bd) | (with_reducible apply ba) | (with_reducible refine bp ?_ (by first | omega | (simp [pad_size]; done) | (simp [pad_size]; omega)) _ _) | (with_reducible refine bs ?_ (by first | omega | (simp [pad_size]; done) | (simp [pad_size]; omega)) _) | (with_reducible refine bt ?_ (by assumption))))))).mono ?_; rintro e w1 ⟨a, n, c, rfl, hI, hb⟩; obtain ⟨m1, g1, d1, hm1, rfl⟩ := pad_of hb; (try rw [hpad.2.2.2.2.2] at hI); have hI : Hid (IsCoins _ (.slice a n c) (lst VP 8)) := hI; clear hb; simp [pad_size] at hm1)
    | (go_at_call 57; refine restRK hz.out hy.out ?_ ?_ ?_; exact hA.out _ (hbb.out _ (by (repeat (first | (with_reducible exact Below.refl _ _) | (with_reducible assumption) | (with_reducible apply bd) | (with_reducible apply ba) | (with_reducible refine bp ?_ (by first | omega | (simp [pad_size]; done) | (simp [pad_size]; omega)) _ _) | (with_reducible refine bs ?_ (by first | omega | (simp [pad_size]; done) | (simp [pad_size]; omega)) _) | (with_reducible refine bt ?_ (by assumption)))))); exact IsCoins.below hI.out (by (repeat (first | (with_reducible exact Below.refl _ _) | (with_reducible assumption) | (with_reducible apply bd) | (with_reducible apply ba) | (with_reducible refine bp ?_ (by first | omega | (simp [pad_size]; done) | (simp [pad_size]; omega)) _ _) | (with_reducible refine bs ?_ (by first | omega | (simp [pad_size]; done) | (simp [pad_size]; omega)) _) | (with_reducible refine bt ?_ (by assumption))))); rintro e w1 ⟨a', n', c', rfl, hJ, hb⟩; obtain ⟨m2, g2, d2, hm2, rfl⟩ := pad_of hb; rw [hlk.out] at hJ; (try rw [hpad.2.2.2.2.2] at hJ); have hJ : Hid (IsCoins _ (.slice a' n' c') (lst LK 8)) := hJ; clear hb; simp [pad_size] at hm2))
  all_goals go_wp2_with fail
  all_goals go_ret
  all_goals exact ⟨_, _, _, rfl, IsCoins.below hJ.out (by (repeat (first | (with_reducible exact Below.refl _ _) | (with_reducible assumption) | (with_reducible apply bd) | (with_reducible apply ba) | (with_reducible refine bp ?_ (by first | omega | (simp [pad_size]; done) | (simp [pad_size]; omega)) _ _) | (with_reducible refine bs ?_ (by first | omega | (simp [pad_size]; done) | (simp [pad_size]; omega)) _) | (with_reducible refine bt ?_ (by assumption))))), hbb.out _ (by (repeat (first | (with_reducible exact Below.refl _ _) | (with_reducible assumption) | (with_reducible apply bd) | (with_reducible apply ba) | (with_reducible refine bp ?_ (by first | omega | (simp [pad_size]; done) | (simp [pad_size]; omega)) _ _) | (with_reducible refine bs ?_ (by first | omega | (simp [pad_size]; done) | (simp [pad_size]; omega)) _) | (with_reducible refine bt ?_ (by assumption)))))⟩
end Go.Proofs.Ytmfnfnegnfpkiaa
