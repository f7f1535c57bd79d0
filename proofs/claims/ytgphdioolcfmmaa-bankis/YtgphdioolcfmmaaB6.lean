
/- num.Read and the reference's Read: the walks. -/
import Derived.Test.YtgphdioolcfmmaaB5
set_option linter.unusedSimpArgs false
set_option linter.unusedVariables false
set_option maxRecDepth 20000
namespace Go.Proofs.Ytgphdioolcfmmaa
open Go.RowKit

set_option maxRecDepth 100000 in
set_option maxHeartbeats 16000000 in
theorem read_some (p : List Int) (n blk off cap : Nat) (hn : Hid (n = p.length)) (hl : 0 < n ∧ n ≤ 32) (hp : ∀ b ∈ p, 0 ≤ b ∧ b ≤ 255) (z0 z1 z2 z3 b0 : Int) (hz : Lim z0 z1 z2 z3) (hv : Hid (val z0 z1 z2 z3 = rd p)) (w : World) (hg : blk < w.heap.size) (hc : ∀ i x, p[i]? = some x → w.cell? ⟨blk, off + i, none⟩ = some (.int .u8 x)) (h0 : p[0]? = some b0) (hb0 : 0 < b0) :
    Calls Try.prog 54 #[.slice (some ⟨blk, off, none⟩) n cap] w fun e w' => e = .returned (.tuple #[.agg #[.int .u64 z0, .int .u64 z1, .int .u64 z2, .int .u64 z3], .int .i64 0]) ∧ Below w.heap.size w w' := by
  have hpad := pads
  have c0 := hc 0 b0 h0
  simp only [Nat.add_zero] at c0
  have hne0 : (b0 == 0) = false := by simp; omega
  have hnp : (0 : Int) < (n : Int) := by omega
  have hn32 : ¬ (32 : Int) < (n : Int) := by omega
  go_enter Try.func54, Try.ntmps54
  go_wp2
  go_loopw [25] (fun i wr => ∃ (k m : Nat) (f : Nat → Obj) (dr : Nat) (a0 a1 a2 a3 : Int), k ≤ n ∧ i = .int .i64 k ∧ Lim a0 a1 a2 a3 ∧ Hid (val a0 a1 a2 a3 = rd (p.take k) * 256 ^ (n - k)) ∧ w.heap.size + 1 + 1 ≤ m ∧ wr = pad ((w.alloc (.cells #[.int .u64 0, .int .u64 0, .int .u64 0, .int .u64 0] 50)).alloc (.cells #[.int .u64 a0, .int .u64 a1, .int .u64 a2, .int .u64 a3] 50)) m f dr) (fun i _ => n - (intOf i).toNat)
  case atStart =>
    obtain ⟨m, f, dr, hm, e⟩ := pad_of (Below.refl _ ((w.alloc (.cells #[.int .u64 0, .int .u64 0, .int .u64 0, .int .u64 0] 50)).alloc (.cells #[.int .u64 0, .int .u64 0, .int .u64 0, .int .u64 0] 50)))
    exact ⟨0, m, f, dr, 0, 0, 0, 0, by omega, rfl, lim_zero, by unfold Hid; rw [val0]; simp [rd], by simpa using hm, e⟩
  case round =>
    clear c0
    obtain ⟨k, m, f, dr, a0, a1, a2, a3, hk, rfl, hlim, hval, hm, rfl⟩ := hrel
    have st := sz2 (n := w.heap.size) (m := m) hm
    have hgm : blk < m := by omega
    have hgn : ¬ blk = w.heap.size := by omega
    have hgn1 : ¬ blk = w.heap.size + 1 := by omega
    have hgl : blk < w.heap.size + 1 := by omega
    have hgl' : blk < w.heap.size + 1 + 1 := by omega
    by_cases hlt : k < n
    · have hkp : k < p.length := by have := hn.out; omega
      have c := hc k p[k] (by simp [hkp])
      have hb := hp p[k] (List.getElem_mem hkp)
      have htk : Hid (rd (p.take (k + 1)) = rd (p.take k) * 256 + p[k]) := by
        unfold Hid; rw [List.take_succ_eq_append_getElem hkp, rd_snoc]
      generalize p[k] = b at *
      clear hc
      obtain ⟨pl, hpl⟩ : ∃ pl : Nat, n = k + 1 + pl := Nat.exists_eq_add_of_le hlt
      have hplb : pl < 32 := by omega
      have hv1 : val a0 a1 a2 a3 = rd (p.take k) * 256 ^ (pl + 1) := by rw [hval.out, show n - k = pl + 1 by omega]
      have hnew : Hid ((rd (p.take k) * 256 + b) * 256 ^ pl = rd (p.take (k + 1)) * 256 ^ (n - (k + 1))) := by
        unfold Hid; rw [htk.out, show n - (k + 1) = pl by omega]
      obtain ⟨hw, f0, f1, f2, f3⟩ := rd_at hplb hlim hb hv1
      have hsh : (n : Int) - 1 - (k : Int) = (pl : Int) := by omega
      obtain ⟨t, hte⟩ : ∃ t, Hid (b * 2 ^ (8 * (pl % 8)) = t) := ⟨_, rfl⟩
      have o0 : pl / 8 = 0 → bits .or .u64 a0 t = a0 + t := fun h => by rw [← hte.out]; exact or_byte (by omega) hlim.1 (f0 h).1 hb
      have o1 : pl / 8 = 1 → bits .or .u64 a1 t = a1 + t := fun h => by rw [← hte.out]; exact or_byte (by omega) hlim.2.1 (f1 h).1 hb
      have o2 : pl / 8 = 2 → bits .or .u64 a2 t = a2 + t := fun h => by rw [← hte.out]; exact or_byte (by omega) hlim.2.2.1 (f2 h).1 hb
      have o3 : pl / 8 = 3 → bits .or .u64 a3 t = a3 + t := fun h => by rw [← hte.out]; exact or_byte (by omega) hlim.2.2.2 (f3 h).1 hb
      have hwt : IntKind.u64.wrap (b * 2 ^ (8 * (pl % 8))) = t := by rw [hw, hte.out]
      rw [hte.out] at f0 f1 f2 f3
      have O : Hid ((pl / 8 = 0 → bits .or .u64 a0 t = a0 + t) ∧ (pl / 8 = 1 → bits .or .u64 a1 t = a1 + t) ∧ (pl / 8 = 2 → bits .or .u64 a2 t = a2 + t) ∧ (pl / 8 = 3 → bits .or .u64 a3 t = a3 + t)) := ⟨o0, o1, o2, o3⟩
      have G0 : Hid _ := f0
      have G1 : Hid _ := f1
      have G2 : Hid _ := f2
      have G3 : Hid _ := f3
      obtain ⟨kk, hkk⟩ : ∃ kk : Nat, Hid (kk = k + 1) := ⟨_, rfl⟩
      have htb : Hid (pl % 8 = 0 → t = b) := fun h => by have e := hte.out; rw [h] at e; simp at e; exact e.symm
      clear o0 o1 o2 o3 f0 f1 f2 f3 hw hv1
      have hpl' : Hid (n = k + 1 + pl) := hpl
      clear hpl
      rcases (show pl = 0 ∨ pl = 1 ∨ pl = 2 ∨ pl = 3 ∨ pl = 4 ∨ pl = 5 ∨ pl = 6 ∨ pl = 7 ∨ pl = 8 ∨ pl = 9 ∨ pl = 10 ∨ pl = 11 ∨ pl = 12 ∨ pl = 13 ∨ pl = 14 ∨ pl = 15 ∨ pl = 16 ∨ pl = 17 ∨ pl = 18 ∨ pl = 19 ∨ pl = 20 ∨ pl = 21 ∨ pl = 22 ∨ pl = 23 ∨ pl = 24 ∨ pl = 25 ∨ pl = 26 ∨ pl = 27 ∨ pl = 28 ∨ pl = 29 ∨ pl = 30 ∨ pl = 31 by omega) with rfl | rfl | rfl | rfl | rfl | rfl | rfl | rfl | rfl | rfl | rfl | rfl | rfl | rfl | rfl | rfl | rfl | rfl | rfl | rfl | rfl | rfl | rfl | rfl | rfl | rfl | rfl | rfl | rfl | rfl | rfl | rfl
      all_goals
        simp only [Nat.reduceMod, Nat.reduceMul, Int.reducePow, Int.mul_one] at hwt
        first | have ho := And.intro (O.out.1 (by decide)) (G0.out (by decide)).2.1 | have ho := And.intro (O.out.2.1 (by decide)) (G1.out (by decide)).2.1 | have ho := And.intro (O.out.2.2.1 (by decide)) (G2.out (by decide)).2.1 | have ho := And.intro (O.out.2.2.2 (by decide)) (G3.out (by decide)).2.1
        first | have hL := (G0.out (by decide)).2.2 | have hL := (G1.out (by decide)).2.2 | have hL := (G2.out (by decide)).2.2 | have hL := (G3.out (by decide)).2.2
        have HL : Hid _ := hL
        clear hL O G0 G1 G2 G3 hplb
        obtain ⟨ho1, ho2⟩ := ho
        first | (have htb' := htb.out (by decide); subst htb') | skip
        clear htb
        go_wp2
        go_region
        all_goals go_wp2
        all_goals go_roundw
        case rel =>
          have e := hkk.out
          refine ⟨kk, m, f, dr + 1, _, _, _, _, by have := hpl'.out; omega, by rw [e]; go_num, HL.out.1, ?_, hm, ?_⟩
          · unfold Hid; rw [HL.out.2, e, hnew.out]
          · first | rfl | (simp [hpad]; done)
        case measure => (simp [intOf] <;> (have := hpl'.out; omega))
    · have hk' : k = n := by omega
      subst hk'
      go_wp2
      refine bodyPost_ret (v := .tuple #[.agg #[.int .u64 a0, .int .u64 a1, .int .u64 a2, .int .u64 a3], .int .i64 0]) (by simp only [results, Try.results54]; go_simp) rfl ⟨?_, by (repeat (first | (with_reducible exact Below.refl _ _) | (with_reducible assumption) | (with_reducible apply bd) | (with_reducible apply ba) | (with_reducible refine bp ?_ (by first | omega | (simp [pad_size]; done) | (simp [pad_size]; omega)) _ _) | (with_reducible refine bs ?_ (by first | omega | (simp [pad_size]; done) | (simp [pad_size]; omega)) _) | (with_reducible refine bt ?_ (by assumption))))⟩
      have e : val a0 a1 a2 a3 = val z0 z1 z2 z3 := by
        rw [hval.out, hv.out, Nat.sub_self, List.take_of_length_le (by have := hn.out; omega)]; simp
      obtain ⟨rfl, rfl, rfl, rfl⟩ := val_inj hlim hz e
      rfl
end Go.Proofs.Ytgphdioolcfmmaa
