
/- Several texts, one behind the other: B7, B8, O1, O2, O3, O4, O5. -/
import Derived.Test.YtjhjgncnadhbhaaQB1
import Derived.Test.YtjhjgncnadhbhaaN2
import Derived.Laws.MakeOwn
import Derived.Laws.Externs
import Derived.Lib.Bytealg
import Derived.Lib.BytesEntry
import Derived.Laws.OwnMore
import Derived.Lib.AppendZeros
import Derived.Lib.AppendZerosOnto
import Derived.Lib.Overlaps
/- num.Read and the reference's Read: the walks. -/
set_option linter.unusedSimpArgs false
set_option linter.unusedVariables false
set_option maxRecDepth 20000
namespace Go.Proofs.Ytjhjgncnadhbhaa
open Go.RowKit

set_option maxRecDepth 100000 in
set_option maxHeartbeats 16000000 in
theorem readR_some (p : List Int) (n blk off cap : Nat) (hn : Hid (n = p.length)) (hl : 0 < n ∧ n ≤ 32) (hp : ∀ b ∈ p, 0 ≤ b ∧ b ≤ 255) (z0 z1 z2 z3 b0 : Int) (hz : Lim z0 z1 z2 z3) (hv : Hid (val z0 z1 z2 z3 = rd p)) (w : World) (hg : blk < w.heap.size) (hc : ∀ i x, p[i]? = some x → w.cell? ⟨blk, off + i, none⟩ = some (.int .u8 x)) (h0 : p[0]? = some b0) (hb0 : 0 < b0) :
    Calls Try.prog 96 #[.slice (some ⟨blk, off, none⟩) n cap] w fun e w' => e = .returned (.tuple #[.agg #[.int .u64 z0, .int .u64 z1, .int .u64 z2, .int .u64 z3], .bool true]) ∧ Below w.heap.size w w' := by
  have hpad := pads
  have c0 := hc 0 b0 h0
  simp only [Nat.add_zero] at c0
  have hne0 : (b0 == 0) = false := by simp; omega
  have hnp : (0 : Int) < (n : Int) := by omega
  have hn32 : ¬ (32 : Int) < (n : Int) := by omega
  go_enter Try.func96, Try.ntmps96
  go_wp2
  go_loopw [5] (fun i wr => ∃ (k m : Nat) (f : Nat → Obj) (dr : Nat) (a0 a1 a2 a3 : Int), k ≤ n ∧ i = .int .i64 k ∧ Lim a0 a1 a2 a3 ∧ Hid (val a0 a1 a2 a3 = rd (p.take k) * 256 ^ (n - k)) ∧ w.heap.size + 1 + 1 ≤ m ∧ wr = pad ((w.alloc (.cells #[.int .u64 0, .int .u64 0, .int .u64 0, .int .u64 0] 64)).alloc (.cells #[.int .u64 a0, .int .u64 a1, .int .u64 a2, .int .u64 a3] 64)) m f dr) (fun i _ => n - (intOf i).toNat)
  case atStart =>
    obtain ⟨m, f, dr, hm, e⟩ := pad_of (Below.refl _ ((w.alloc (.cells #[.int .u64 0, .int .u64 0, .int .u64 0, .int .u64 0] 64)).alloc (.cells #[.int .u64 0, .int .u64 0, .int .u64 0, .int .u64 0] 64)))
    exact ⟨0, m, f, dr, 0, 0, 0, 0, by omega, rfl, lim_zero, by unfold Hid; rw [val0]; simp [rd], by simpa using hm, e⟩
  case round =>
    clear c0
    obtain ⟨k, m, f, dr, a0, a1, a2, a3, hk, rfl, hlim, hval, hm, rfl⟩ := hrel
    have st := sz2 (n := w.heap.size) (m := m) hm
    have hgm : blk < m := by omega
    have hgn : ¬ blk = w.heap.size := by omega
    have hgn1 : ¬ blk = w.heap.size + 1 := by omega
    have hgl : blk < w.heap.size + 1 := by omega
    have hgl' : blk < w.heap.size + 1 + 1 := by omega
    by_cases hlt : k < n
    · have hkp : k < p.length := by have := hn.out; omega
      have c := hc k p[k] (by simp [hkp])
      have hb := hp p[k] (List.getElem_mem hkp)
      have htk : Hid (rd (p.take (k + 1)) = rd (p.take k) * 256 + p[k]) := by
        unfold Hid; rw [List.take_succ_eq_append_getElem hkp, rd_snoc]
      generalize p[k] = b at *
      clear hc
      obtain ⟨pl, hpl⟩ : ∃ pl : Nat, n = k + 1 + pl := Nat.exists_eq_add_of_le hlt
      have hplb : pl < 32 := by omega
      have hv1 : val a0 a1 a2 a3 = rd (p.take k) * 256 ^ (pl + 1) := by rw [hval.out, show n - k = pl + 1 by omega]
      have hnew : Hid ((rd (p.take k) * 256 + b) * 256 ^ pl = rd (p.take (k + 1)) * 256 ^ (n - (k + 1))) := by
        unfold Hid; rw [htk.out, show n - (k + 1) = pl by omega]
      obtain ⟨hw, f0, f1, f2, f3⟩ := rd_at hplb hlim hb hv1
      have hsh : (n : Int) - 1 - (k : Int) = (pl : Int) := by omega
      obtain ⟨t, hte⟩ : ∃ t, Hid (b * 2 ^ (8 * (pl % 8)) = t) := ⟨_, rfl⟩
      have o0 : pl / 8 = 0 → bits .or .u64 a0 t = a0 + t := fun h => by rw [← hte.out]; exact or_byte (by omega) hlim.1 (f0 h).1 hb
      have o1 : pl / 8 = 1 → bits .or .u64 a1 t = a1 + t := fun h => by rw [← hte.out]; exact or_byte (by omega) hlim.2.1 (f1 h).1 hb
      have o2 : pl / 8 = 2 → bits .or .u64 a2 t = a2 + t := fun h => by rw [← hte.out]; exact or_byte (by omega) hlim.2.2.1 (f2 h).1 hb
      have o3 : pl / 8 = 3 → bits .or .u64 a3 t = a3 + t := fun h => by rw [← hte.out]; exact or_byte (by omega) hlim.2.2.2 (f3 h).1 hb
      have hwt : IntKind.u64.wrap (b * 2 ^ (8 * (pl % 8))) = t := by rw [hw, hte.out]
      rw [hte.out] at f0 f1 f2 f3
      have O : Hid ((pl / 8 = 0 → bits .or .u64 a0 t = a0 + t) ∧ (pl / 8 = 1 → bits .or .u64 a1 t = a1 + t) ∧ (pl / 8 = 2 → bits .or .u64 a2 t = a2 + t) ∧ (pl / 8 = 3 → bits .or .u64 a3 t = a3 + t)) := ⟨o0, o1, o2, o3⟩
      have G0 : Hid _ := f0
      have G1 : Hid _ := f1
      have G2 : Hid _ := f2
      have G3 : Hid _ := f3
      obtain ⟨kk, hkk⟩ : ∃ kk : Nat, Hid (kk = k + 1) := ⟨_, rfl⟩
      have htb : Hid (pl % 8 = 0 → t = b) := fun h => by have e := hte.out; rw [h] at e; simp at e; exact e.symm
      clear o0 o1 o2 o3 f0 f1 f2 f3 hw hv1
      have hpl' : Hid (n = k + 1 + pl) := hpl
      clear hpl
      rcases (show pl = 0 ∨ pl = 1 ∨ pl = 2 ∨ pl = 3 ∨ pl = 4 ∨ pl = 5 ∨ pl = 6 ∨ pl = 7 ∨ pl = 8 ∨ pl = 9 ∨ pl = 10 ∨ pl = 11 ∨ pl = 12 ∨ pl = 13 ∨ pl = 14 ∨ pl = 15 ∨ pl = 16 ∨ pl = 17 ∨ pl = 18 ∨ pl = 19 ∨ pl = 20 ∨ pl = 21 ∨ pl = 22 ∨ pl = 23 ∨ pl = 24 ∨ pl = 25 ∨ pl = 26 ∨ pl = 27 ∨ pl = 28 ∨ pl = 29 ∨ pl = 30 ∨ pl = 31 by omega) with rfl | rfl | rfl | rfl | rfl | rfl | rfl | rfl | rfl | rfl | rfl | rfl | rfl | rfl | rfl | rfl | rfl | rfl | rfl | rfl | rfl | rfl | rfl | rfl | rfl | rfl | rfl | rfl | rfl | rfl | rfl | rfl
      all_goals
        simp only [Nat.reduceMod, Nat.reduceMul, Int.reducePow, Int.mul_one] at hwt
        first | have ho := And.intro (O.out.1 (by decide)) (G0.out (by decide)).2.1 | have ho := And.intro (O.out.2.1 (by decide)) (G1.out (by decide)).2.1 | have ho := And.intro (O.out.2.2.1 (by decide)) (G2.out (by decide)).2.1 | have ho := And.intro (O.out.2.2.2 (by decide)) (G3.out (by decide)).2.1
        first | have hL := (G0.out (by decide)).2.2 | have hL := (G1.out (by decide)).2.2 | have hL := (G2.out (by decide)).2.2 | have hL := (G3.out (by decide)).2.2
        have HL : Hid _ := hL
        clear hL O G0 G1 G2 G3 hplb
        obtain ⟨ho1, ho2⟩ := ho
        first | (have htb' := htb.out (by decide); subst htb') | skip
        clear htb
        go_wp2
        go_region
        all_goals go_wp2
        all_goals go_roundw
        case rel =>
          have e := hkk.out
          refine ⟨kk, m, f, dr + 1, _, _, _, _, by have := hpl'.out; omega, by rw [e]; go_num, HL.out.1, ?_, hm, ?_⟩
          · unfold Hid; rw [HL.out.2, e, hnew.out]
          · first | rfl | (simp [hpad]; done)
        case measure => (simp [intOf] <;> (have := hpl'.out; omega))
    · have hk' : k = n := by omega
      subst hk'
      go_wp2
      refine bodyPost_ret (v := .tuple #[.agg #[.int .u64 a0, .int .u64 a1, .int .u64 a2, .int .u64 a3], .bool true]) (by simp only [results, Try.results96]; go_simp) rfl ⟨?_, by (repeat (first | (with_reducible exact Below.refl _ _) | (with_reducible assumption) | (with_reducible apply bd) | (with_reducible apply ba) | (with_reducible refine bp ?_ (by first | omega | (simp [pad_size]; done) | (simp [pad_size]; omega)) _ _) | (with_reducible refine bs ?_ (by first | omega | (simp [pad_size]; done) | (simp [pad_size]; omega)) _) | (with_reducible refine bt ?_ (by assumption))))⟩
      have e : val a0 a1 a2 a3 = val z0 z1 z2 z3 := by
        rw [hval.out, hv.out, Nat.sub_self, List.take_of_length_le (by have := hn.out; omega)]; simp
      obtain ⟨rfl, rfl, rfl, rfl⟩ := val_inj hlim hz e
      rfl
end Go.Proofs.Ytjhjgncnadhbhaa

/- num.Read and the reference's Read, whole; Bytes as they are used. -/
namespace Go.Proofs.Ytjhjgncnadhbhaa
open Go.RowKit

set_option maxHeartbeats 2000000 in
theorem read_nil (a : Option Addr) (cap : Nat) (w : World) :
    Calls Try.prog 95 #[.slice a 0 cap] w fun e w' => e = .returned (.tuple #[.agg #[.int .u64 0, .int .u64 0, .int .u64 0, .int .u64 0], .int .i64 0]) ∧ Below w.heap.size w w' := by
  go_enter Try.func95, Try.ntmps95
  go_wp2
  apply wp_loop_rounds 1
  simp only [Code.rounds]
  go_wp2
  refine bodyPost_ret (v := .tuple #[.agg #[.int .u64 0, .int .u64 0, .int .u64 0, .int .u64 0], .int .i64 0]) (by simp only [results, Try.results95]; go_simp) rfl ⟨rfl, by (repeat (first | (with_reducible exact Below.refl _ _) | (with_reducible assumption) | (with_reducible apply bd) | (with_reducible apply ba) | (with_reducible refine bp ?_ (by first | omega | (simp [pad_size]; done) | (simp [pad_size]; omega)) _ _) | (with_reducible refine bs ?_ (by first | omega | (simp [pad_size]; done) | (simp [pad_size]; omega)) _) | (with_reducible refine bt ?_ (by assumption))))⟩
set_option maxHeartbeats 2000000 in
theorem readR_nil (a : Option Addr) (cap : Nat) (w : World) :
    Calls Try.prog 96 #[.slice a 0 cap] w fun e w' => e = .returned (.tuple #[.agg #[.int .u64 0, .int .u64 0, .int .u64 0, .int .u64 0], .bool true]) ∧ Below w.heap.size w w' := by
  go_enter Try.func96, Try.ntmps96
  go_wp2
  apply wp_loop_rounds 1
  simp only [Code.rounds]
  go_wp2
  refine bodyPost_ret (v := .tuple #[.agg #[.int .u64 0, .int .u64 0, .int .u64 0, .int .u64 0], .bool true]) (by simp only [results, Try.results96]; go_simp) rfl ⟨rfl, by (repeat (first | (with_reducible exact Below.refl _ _) | (with_reducible assumption) | (with_reducible apply bd) | (with_reducible apply ba) | (with_reducible refine bp ?_ (by first | omega | (simp [pad_size]; done) | (simp [pad_size]; omega)) _ _) | (with_reducible refine bs ?_ (by first | omega | (simp [pad_size]; done) | (simp [pad_size]; omega)) _) | (with_reducible refine bt ?_ (by assumption))))⟩
set_option maxHeartbeats 2000000 in
theorem read_long (a : Option Addr) (n cap : Nat) (hn : 32 < n ∧ n ≤ 1073741824) (w : World) :
    Calls Try.prog 95 #[.slice a n cap] w fun e w' => e = .returned (.tuple #[.agg #[.int .u64 0, .int .u64 0, .int .u64 0, .int .u64 0], .int .i64 4]) ∧ Below w.heap.size w w' := by
  have h : (32 : Int) < (n : Int) := by omega
  go_enter Try.func95, Try.ntmps95
  go_wp2
  refine bodyPost_ret (v := .tuple #[.agg #[.int .u64 0, .int .u64 0, .int .u64 0, .int .u64 0], .int .i64 4]) (by simp only [results, Try.results95]; go_simp) rfl ⟨rfl, by (repeat (first | (with_reducible exact Below.refl _ _) | (with_reducible assumption) | (with_reducible apply bd) | (with_reducible apply ba) | (with_reducible refine bp ?_ (by first | omega | (simp [pad_size]; done) | (simp [pad_size]; omega)) _ _) | (with_reducible refine bs ?_ (by first | omega | (simp [pad_size]; done) | (simp [pad_size]; omega)) _) | (with_reducible refine bt ?_ (by assumption))))⟩
set_option maxHeartbeats 2000000 in
theorem readR_long (a : Option Addr) (n cap : Nat) (hn : 32 < n ∧ n ≤ 1073741824) (w : World) :
    Calls Try.prog 96 #[.slice a n cap] w fun e w' => e = .returned (.tuple #[.agg #[.int .u64 0, .int .u64 0, .int .u64 0, .int .u64 0], .bool false]) ∧ Below w.heap.size w w' := by
  have h : (32 : Int) < (n : Int) := by omega
  go_enter Try.func96, Try.ntmps96
  go_wp2
  refine bodyPost_ret (v := .tuple #[.agg #[.int .u64 0, .int .u64 0, .int .u64 0, .int .u64 0], .bool false]) (by simp only [results, Try.results96]; go_simp) rfl ⟨rfl, by (repeat (first | (with_reducible exact Below.refl _ _) | (with_reducible assumption) | (with_reducible apply bd) | (with_reducible apply ba) | (with_reducible refine bp ?_ (by first | omega | (simp [pad_size]; done) | (simp [pad_size]; omega)) _ _) | (with_reducible refine bs ?_ (by first | omega | (simp [pad_size]; done) | (simp [pad_size]; omega)) _) | (with_reducible refine bt ?_ (by assumption))))⟩
set_option maxHeartbeats 2000000 in
theorem read_head (blk off n cap : Nat) (hn : 0 < n ∧ n ≤ 32) (w : World) (hg : blk < w.heap.size) (c0 : w.cell? ⟨blk, off, none⟩ = some (.int .u8 0)) :
    Calls Try.prog 95 #[.slice (some ⟨blk, off, none⟩) n cap] w fun e w' => e = .returned (.tuple #[.agg #[.int .u64 0, .int .u64 0, .int .u64 0, .int .u64 0], .int .i64 4]) ∧ Below w.heap.size w w' := by
  have h : ¬ (32 : Int) < (n : Int) := by omega
  have hnp : (0 : Int) < (n : Int) := by omega
  go_enter Try.func95, Try.ntmps95
  go_wp2
  refine bodyPost_ret (v := .tuple #[.agg #[.int .u64 0, .int .u64 0, .int .u64 0, .int .u64 0], .int .i64 4]) (by simp only [results, Try.results95]; go_simp) rfl ⟨rfl, by (repeat (first | (with_reducible exact Below.refl _ _) | (with_reducible assumption) | (with_reducible apply bd) | (with_reducible apply ba) | (with_reducible refine bp ?_ (by first | omega | (simp [pad_size]; done) | (simp [pad_size]; omega)) _ _) | (with_reducible refine bs ?_ (by first | omega | (simp [pad_size]; done) | (simp [pad_size]; omega)) _) | (with_reducible refine bt ?_ (by assumption))))⟩
set_option maxHeartbeats 2000000 in
theorem readR_head (blk off n cap : Nat) (hn : 0 < n ∧ n ≤ 32) (w : World) (hg : blk < w.heap.size) (c0 : w.cell? ⟨blk, off, none⟩ = some (.int .u8 0)) :
    Calls Try.prog 96 #[.slice (some ⟨blk, off, none⟩) n cap] w fun e w' => e = .returned (.tuple #[.agg #[.int .u64 0, .int .u64 0, .int .u64 0, .int .u64 0], .bool false]) ∧ Below w.heap.size w w' := by
  have h : ¬ (32 : Int) < (n : Int) := by omega
  have hnp : (0 : Int) < (n : Int) := by omega
  go_enter Try.func96, Try.ntmps96
  go_wp2
  refine bodyPost_ret (v := .tuple #[.agg #[.int .u64 0, .int .u64 0, .int .u64 0, .int .u64 0], .bool false]) (by simp only [results, Try.results96]; go_simp) rfl ⟨rfl, by (repeat (first | (with_reducible exact Below.refl _ _) | (with_reducible assumption) | (with_reducible apply bd) | (with_reducible apply ba) | (with_reducible refine bp ?_ (by first | omega | (simp [pad_size]; done) | (simp [pad_size]; omega)) _ _) | (with_reducible refine bs ?_ (by first | omega | (simp [pad_size]; done) | (simp [pad_size]; omega)) _) | (with_reducible refine bt ?_ (by assumption))))⟩

/-- The parts of what is laid so. -/
theorem bytes_parts {W : World} {v : Value} {p : List Int} (h : IsBytes W v p) : (p = [] ∧ ∃ a cap, v = .slice a 0 cap) ∨ ∃ blk off cap b, v = .slice (some ⟨blk, off, none⟩) p.length cap ∧ p[0]? = some b ∧ 0 < p.length ∧ p.length ≤ 1073741824 ∧ blk < W.heap.size ∧ ∀ i x, p[i]? = some x → W.cell? ⟨blk, off + i, none⟩ = some (.int .u8 x) := by
  by_cases hp : p = []
  · obtain ⟨a, cap, e⟩ := h.slice
    rw [hp] at e
    exact .inl ⟨hp, a, cap, e⟩
  · rcases h with h | ⟨blk, off, cap, rfl, h1, h2, h3⟩
    · exact absurd h.1 hp
    · have hl : 0 < p.length := List.length_pos_iff.2 hp
      exact .inr ⟨blk, off, cap, p[0], rfl, List.getElem?_eq_getElem hl, hl, h1, h2, h3⟩
theorem good_head {p : List Int} {b : Int} (h : Good p) (h0 : p[0]? = some b) : 0 < b := h.2 b (by rw [List.head?_eq_getElem?]; exact h0)
theorem read_good {v : Value} {p : List Int} {z0 z1 z2 z3 : Int} (hg : Good p) (hl : p.length ≤ 32) (hz : Lim z0 z1 z2 z3) (hv : val z0 z1 z2 z3 = rd p) (w : World) (h : IsBytes w v p) :
    Calls Try.prog 95 #[v] w fun e w' => e = .returned (.tuple #[.agg #[.int .u64 z0, .int .u64 z1, .int .u64 z2, .int .u64 z3], .int .i64 0]) ∧ Below w.heap.size w w' := by
  rcases bytes_parts h with ⟨rfl, a, cap, rfl⟩ | ⟨blk, off, cap, b, rfl, h0, h1, h2, h3, h4⟩
  · obtain ⟨rfl, rfl, rfl, rfl⟩ := (val_zero hz).1 hv
    exact read_nil a cap w
  · exact read_some p p.length blk off cap rfl ⟨h1, hl⟩ hg.1 z0 z1 z2 z3 b hz hv w h3 h4 h0 (good_head hg h0)
theorem readR_good {v : Value} {p : List Int} {z0 z1 z2 z3 : Int} (hg : Good p) (hl : p.length ≤ 32) (hz : Lim z0 z1 z2 z3) (hv : val z0 z1 z2 z3 = rd p) (w : World) (h : IsBytes w v p) :
    Calls Try.prog 96 #[v] w fun e w' => e = .returned (.tuple #[.agg #[.int .u64 z0, .int .u64 z1, .int .u64 z2, .int .u64 z3], .bool true]) ∧ Below w.heap.size w w' := by
  rcases bytes_parts h with ⟨rfl, a, cap, rfl⟩ | ⟨blk, off, cap, b, rfl, h0, h1, h2, h3, h4⟩
  · obtain ⟨rfl, rfl, rfl, rfl⟩ := (val_zero hz).1 hv
    exact readR_nil a cap w
  · exact readR_some p p.length blk off cap rfl ⟨h1, hl⟩ hg.1 z0 z1 z2 z3 b hz hv w h3 h4 h0 (good_head hg h0)
theorem read_bad {v : Value} {p : List Int} (hb : 32 < p.length ∨ p[0]? = some 0) (w : World) (h : IsBytes w v p) :
    Calls Try.prog 95 #[v] w fun e w' => e = .returned (.tuple #[.agg #[.int .u64 0, .int .u64 0, .int .u64 0, .int .u64 0], .int .i64 4]) ∧ Below w.heap.size w w' := by
  rcases bytes_parts h with ⟨rfl, a, cap, rfl⟩ | ⟨blk, off, cap, b, rfl, h0, h1, h2, h3, h4⟩
  · simp at hb
  · by_cases hl : 32 < p.length
    · exact read_long _ _ _ ⟨hl, h2⟩ w
    · have e : p[0]? = some 0 := hb.resolve_left hl
      exact read_head blk off p.length cap (by omega) w h3 (by simpa using h4 0 0 e)
theorem readR_bad {v : Value} {p : List Int} (hb : 32 < p.length ∨ p[0]? = some 0) (w : World) (h : IsBytes w v p) :
    Calls Try.prog 96 #[v] w fun e w' => e = .returned (.tuple #[.agg #[.int .u64 0, .int .u64 0, .int .u64 0, .int .u64 0], .bool false]) ∧ Below w.heap.size w w' := by
  rcases bytes_parts h with ⟨rfl, a, cap, rfl⟩ | ⟨blk, off, cap, b, rfl, h0, h1, h2, h3, h4⟩
  · simp at hb
  · by_cases hl : 32 < p.length
    · exact readR_long _ _ _ ⟨hl, h2⟩ w
    · have e : p[0]? = some 0 := hb.resolve_left hl
      exact readR_head blk off p.length cap (by omega) w h3 (by simpa using h4 0 0 e)
theorem bytesR_can (x0 x1 x2 x3 : Int) (hx : Lim x0 x1 x2 x3) (w : World) :
    Calls Try.prog 94 #[.agg #[.int .u64 x0, .int .u64 x1, .int .u64 x2, .int .u64 x3]] w fun e w' => ∃ v : Value, e = .returned v ∧ IsBytes w' v (byL (val x0 x1 x2 x3) 32) ∧ Below w.heap.size w w' := by
  refine (bytesR_any x0 x1 x2 x3 hx w).mono ?_
  rintro e w' ⟨v, rfl, hr, hb⟩
  have := byL_len (val x0 x1 x2 x3) 32
  exact ⟨v, rfl, own_bytes (by omega) hr, hb⟩
theorem bytes_two (x0 x1 x2 x3 : Int) (hx : Lim x0 x1 x2 x3) (w : World) :
    Calls Try.prog 93 #[.agg #[.int .u64 x0, .int .u64 x1, .int .u64 x2, .int .u64 x3]] w fun e w' => ∃ v : Value, e = .returned v ∧ IsBytes w' v (byL (val x0 x1 x2 x3) 32) ∧ ((∃ a cap, v = .slice a 0 cap) ∨ ∃ g off cap n b, v = .slice (some ⟨g, off, none⟩) n cap ∧ (0 < n ∧ n ≤ 32) ∧ g < w'.heap.size ∧ w'.cell? ⟨g, off, none⟩ = some (.int .u8 b) ∧ 0 < b) ∧ Below w.heap.size w w' := by
  refine (bytes_can x0 x1 x2 x3 hx w).mono ?_
  rintro e w' ⟨v, rfl, h, hb⟩
  refine ⟨v, rfl, h, ?_, hb⟩
  have hl := byL_len (val x0 x1 x2 x3) 32
  rcases bytes_parts h with ⟨-, a, cap, rfl⟩ | ⟨blk, off, cap, b, rfl, h0, h1, h2, h3, h4⟩
  · exact .inl ⟨a, cap, rfl⟩
  · exact .inr ⟨blk, off, cap, _, b, rfl, ⟨h1, hl⟩, h3, by simpa using h4 0 b h0, good_head (byL_good _ _) h0⟩
end Go.Proofs.Ytjhjgncnadhbhaa

/- store: own bytes; which of two keys stands ahead. -/
namespace Go.Proofs.Ytjhjgncnadhbhaa
open Go.RowKit

theorem u8_one : (Try.prog.info? 5).map (·.size) = some 1 := by kernel_rfl
theorem Src.parts {W : World} {u : Value} {q : List Int} (h : Src W u q) : ∃ sp cap, u = .slice sp q.length cap ∧ (0 < (encB q).length → ∃ ad, sp = some ad ∧ ∀ j v, (encB q)[j]? = some v → W.cell? (ad.add j) = some v) := by
  rcases h with ⟨rfl, rfl⟩ | ⟨ad, cap, rfl, hc⟩
  · exact ⟨none, 0, rfl, by simp [encB]⟩
  · refine ⟨some ad, cap, rfl, fun _ => ⟨ad, rfl, fun j x hj => ?_⟩⟩
    simp only [encB, List.getElem?_map] at hj
    obtain ⟨y, hy, rfl⟩ := Option.map_eq_some_iff.1 hj
    exact hc j y hy
/-- Bytes of one's own, in a block of their own. -/
def Own (W : World) (g : Nat) (v : Value) (q : List Int) : Prop := v = .slice (some ⟨g, 0, none⟩) q.length q.length ∧ W.heap[g]? = some (.cells (encB q).toArray 5 (0, 0))
theorem Own.lt {W : World} {g : Nat} {v : Value} {q : List Int} (h : Own W g v q) : g < W.heap.size := (Array.getElem?_eq_some_iff.1 h.2).1
theorem Own.src {W : World} {g : Nat} {v : Value} {q : List Int} (h : Own W g v q) : Src W v q := by
  obtain ⟨rfl, hb⟩ := h
  refine .inr ⟨⟨g, 0, none⟩, _, rfl, fun i x hi => ?_⟩
  rw [add_cell, (cells_of_block hb).1]
  simp [encB, hi]
theorem Own.kept {W W' : World} {g : Nat} {v : Value} {q : List Int} (h : Own W g v q) (e : W'.heap[g]? = W.heap[g]?) : Own W' g v q := ⟨h.1, e.trans h.2⟩

/-- Which of two keys stands ahead: -1 the first, 1 the second, 0: they are one. -/
def cmpB : List Int → List Int → Int
  | [], [] => 0
  | [], _ :: _ => -1
  | _ :: _, [] => 1
  | a :: p, b :: q => if a < b then -1 else if b < a then 1 else cmpB p q
def Byte (q : List Int) : Prop := ∀ x ∈ q, 0 ≤ x ∧ x ≤ 255
theorem cmp_bytes : ∀ (p q : List Int), Byte p → Byte q → Lib.compareBytes (Lib.bytesOf p) (Lib.bytesOf q) = cmpB p q
  | [], [], _, _ => by simp [Lib.bytesOf, Lib.compareBytes, cmpB]
  | [], b :: q, _, _ => by simp [Lib.bytesOf, Lib.compareBytes, cmpB]
  | a :: p, [], _, _ => by simp [Lib.bytesOf, Lib.compareBytes, cmpB]
  | a :: p, b :: q, hp, hq => by
    have ha := hp a (by simp)
    have hb := hq b (by simp)
    have ih := cmp_bytes p q (fun x hx => hp x (by simp [hx])) (fun x hx => hq x (by simp [hx]))
    have key : ∀ x y : Int, 0 ≤ x ∧ x ≤ 255 → 0 ≤ y ∧ y ≤ 255 → (x.toNat.toUInt8 < y.toNat.toUInt8 ↔ x < y) := by
      intro x y hx hy
      rw [UInt8.lt_iff_toNat_lt]
      simp only [Nat.toUInt8, UInt8.toNat_ofNat']
      omega
    simp only [Lib.bytesOf, List.map_cons, Lib.compareBytes, cmpB] at ih ⊢
    rw [ih]
    by_cases h1 : a < b
    · rw [if_pos ((key a b ha hb).2 h1), if_pos h1]
    · rw [if_neg (fun h => h1 ((key a b ha hb).1 h)), if_neg h1]
      by_cases h2 : b < a
      · rw [if_pos ((key b a hb ha).2 h2), if_pos h2]
      · rw [if_neg (fun h => h2 ((key b a hb ha).1 h)), if_neg h2]
theorem bytesOf_run {W : World} {u : Value} {q : List Int} (h : Src W u q) : (Extern.Bytes.bytesOf u).run Try.prog W = .ok ⟨(Lib.bytesOf q).toArray⟩ W := by
  rcases h with ⟨rfl, rfl⟩ | ⟨ad, cap, rfl, hc⟩
  · simp [Extern.Bytes.bytesOf, Lib.bytesOf]; rfl
  · have := Lib.run_loadBytesX (P := Try.prog) (w := W) q ad .empty (fun j x hj => hc j x hj)
    simp only [Extern.Bytes.bytesOf]
    rw [this]
    simp [ByteArray.empty, ByteArray.emptyWithCapacity]
    rfl
end Go.Proofs.Ytjhjgncnadhbhaa

/- store: what lies in a store; where a key is. -/
namespace Go.Proofs.Ytjhjgncnadhbhaa
open Go.RowKit

theorem cmp_self : ∀ p : List Int, cmpB p p = 0
  | [] => rfl
  | a :: p => by simp [cmpB, cmp_self p]
theorem cmp_flip : ∀ p q : List Int, cmpB q p = - cmpB p q
  | [], [] => rfl
  | [], _ :: _ => rfl
  | _ :: _, [] => rfl
  | a :: p, b :: q => by
    have ih := cmp_flip p q
    simp only [cmpB]
    by_cases h1 : a < b
    · simp only [if_pos h1, if_neg (show ¬ b < a by omega)]; rfl
    · by_cases h2 : b < a
      · simp only [if_neg h1, if_pos h2]
      · simp only [if_neg h1, if_neg h2]; exact ih
theorem cmp_eq0 : ∀ p q : List Int, cmpB p q = 0 → p = q
  | [], [], _ => rfl
  | [], _ :: _, h => by simp [cmpB] at h
  | _ :: _, [], h => by simp [cmpB] at h
  | a :: p, b :: q, h => by
    simp only [cmpB] at h
    by_cases h1 : a < b
    · rw [if_pos h1] at h; omega
    · rw [if_neg h1] at h
      by_cases h2 : b < a
      · rw [if_pos h2] at h; omega
      · rw [if_neg h2] at h
        rw [cmp_eq0 p q h, show a = b by omega]
theorem cmp_lim : ∀ p q : List Int, -1 ≤ cmpB p q ∧ cmpB p q ≤ 1
  | [], [] => by simp [cmpB]
  | [], _ :: _ => by simp [cmpB]
  | _ :: _, [] => by simp [cmpB]
  | a :: p, b :: q => by
    have ih := cmp_lim p q
    simp only [cmpB]
    split
    · omega
    · split
      · omega
      · exact ih
theorem cmp_trans : ∀ p q r : List Int, cmpB p q < 0 → cmpB q r < 0 → cmpB p r < 0
  | [], [], r, h, _ => by simp [cmpB] at h
  | [], b :: q, [], _, h => by simp [cmpB] at h
  | [], b :: q, c :: r, _, _ => by simp [cmpB]
  | a :: p, [], r, h, _ => by simp [cmpB] at h
  | a :: p, b :: q, [], _, h => by simp [cmpB] at h
  | a :: p, b :: q, c :: r, h1, h2 => by
    simp only [cmpB] at h1 h2 ⊢
    by_cases x1 : a < b
    · by_cases y1 : b < c
      · rw [if_pos (by omega)]; omega
      · by_cases y2 : c < b
        · rw [if_neg y1, if_pos y2] at h2; omega
        · rw [if_pos (by omega)]; omega
    · by_cases x2 : b < a
      · rw [if_neg x1, if_pos x2] at h1; omega
      · rw [if_neg x1, if_neg x2] at h1
        by_cases y1 : b < c
        · rw [if_pos (by omega)]; omega
        · by_cases y2 : c < b
          · rw [if_neg y1, if_pos y2] at h2; omega
          · rw [if_neg y1, if_neg y2] at h2
            rw [if_neg (by omega), if_neg (by omega)]
            exact cmp_trans p q r h1 h2

/-- A pair: its two values as they lie, and what they are. -/
structure Rec where
  kv : Value
  vv : Value
  k : List Int
  v : List Int
/-- What was: a pair, and whether it was there. -/
structure Was where
  kv : Value
  vv : Value
  k : List Int
  v : List Int
  there : Bool
def cellsR (r : List Rec) : List Value := r.flatMap fun x => [x.kv, x.vv]
def cellsJ (j : List Was) : List Value := j.flatMap fun x => [x.kv, x.vv, .bool x.there]
def cellsI (b : List Nat) : List Value := b.map fun n : Nat => .int .i64 (n : Int)
def InA (W : World) (A : Nat → Prop) (v : Value) (q : List Int) : Prop := (∃ g, A g ∧ Own W g v q) ∧ Byte q ∧ q.length ≤ 1048576
def RecAt (W : World) (A : Nat → Prop) (x : Rec) : Prop := InA W A x.kv x.k ∧ InA W A x.vv x.v
def WasAt (W : World) (A : Nat → Prop) (x : Was) : Prop := InA W A x.kv x.k ∧ (x.there = true → InA W A x.vv x.v) ∧ (x.there = false → x.vv = .slice none 0 0)
/-- Sorted, and few. -/
def Srt (r : List Rec) : Prop := r.Pairwise fun x y => cmpB x.k y.k < 0
theorem InA.kept {W W' : World} {A : Nat → Prop} {v : Value} {q : List Int} (h : InA W A v q) (e : ∀ k, A k → W'.heap[k]? = W.heap[k]?) : InA W' A v q := by
  obtain ⟨⟨g, h1, h2⟩, h3⟩ := h
  exact ⟨⟨g, h1, h2.kept (e g h1)⟩, h3⟩
theorem InA.mono {W : World} {A B : Nat → Prop} {v : Value} {q : List Int} (h : InA W A v q) (e : ∀ k, A k → B k) : InA W B v q := by
  obtain ⟨⟨g, h1, h2⟩, h3⟩ := h
  exact ⟨⟨g, e g h1, h2⟩, h3⟩
theorem InA.src {W : World} {A : Nat → Prop} {v : Value} {q : List Int} (h : InA W A v q) : Src W v q := by
  obtain ⟨⟨g, h1, h2⟩, h3⟩ := h
  exact h2.src
theorem RecAt.kept {W W' : World} {A : Nat → Prop} {x : Rec} (h : RecAt W A x) (e : ∀ k, A k → W'.heap[k]? = W.heap[k]?) : RecAt W' A x := ⟨h.1.kept e, h.2.kept e⟩
theorem WasAt.kept {W W' : World} {A : Nat → Prop} {x : Was} (h : WasAt W A x) (e : ∀ k, A k → W'.heap[k]? = W.heap[k]?) : WasAt W' A x := ⟨h.1.kept e, fun t => (h.2.1 t).kept e, h.2.2⟩
theorem row_keep {W W' : World} {base : Nat} {e : TypeId} {size n : Nat} {v : Value} {xs : List Value} (h : W.ownsRow base e size v n xs) (k : ∀ g, v.ownBlock = some g → W'.heap[g]? = W.heap[g]?) : W'.ownsRow base e size v n xs := by
  refine ⟨h.1, ?_⟩
  rcases h.2 with h2 | ⟨g, cap, cur, rfl, h1, h2, h3⟩
  · exact .inl h2
  · exact .inr ⟨g, cap, cur, rfl, h1, (k g rfl).trans h2, h3⟩
theorem cellsR_len (r : List Rec) : (cellsR r).length = r.length * 2 := by
  induction r with
  | nil => rfl
  | cons x r ih => rw [cellsR, List.flatMap_cons, List.length_append, ← cellsR, ih, List.length_cons]; simp; omega
theorem cellsR_at : ∀ (r : List Rec) (k : Nat) (x : Rec), r[k]? = some x → (cellsR r)[k * 2]? = some x.kv ∧ (cellsR r)[k * 2 + 1]? = some x.vv
  | [], k, x, h => by simp at h
  | y :: r, 0, x, h => by
    simp at h; subst h
    exact ⟨rfl, rfl⟩
  | y :: r, k + 1, x, h => by
    have ih := cellsR_at r k x (by simpa using h)
    rw [show (k + 1) * 2 = k * 2 + 1 + 1 by omega]
    exact ih
/-- A key's place: all ahead are less, none behind is; and whether it is there. -/
structure FindS (r : List Rec) (key : List Int) (i : Nat) (f : Bool) : Prop where
  le : i ≤ r.length
  lo : ∀ k x, k < i → r[k]? = some x → cmpB x.k key < 0
  hi : ∀ k x, i ≤ k → r[k]? = some x → 0 ≤ cmpB x.k key
  is : f = true ↔ ∃ x, r[i]? = some x ∧ x.k = key
theorem srt_at {r : List Rec} (h : Srt r) {i k : Nat} {x y : Rec} (hi : r[i]? = some x) (hk : r[k]? = some y) (hik : i < k) : cmpB x.k y.k < 0 := by
  obtain ⟨h1, rfl⟩ := List.getElem?_eq_some_iff.1 hi
  obtain ⟨h2, rfl⟩ := List.getElem?_eq_some_iff.1 hk
  exact List.pairwise_iff_getElem.1 h i k h1 h2 hik
end Go.Proofs.Ytjhjgncnadhbhaa

/- slices.Insert and slices.Delete at a store's pairs. -/
namespace Go.Proofs.Ytjhjgncnadhbhaa
open Go.RowKit

theorem run_copy_k {P : Program} (w : World) (k : Nat) (dT sT ty elem : TypeId) (g o dLen dCap : Nat) (a : Addr) (sLen sCap : Nat) (cur : List Value) (t : TypeId) (cs : List Value)
    (hu : P.underlying dT = some (.slice elem)) (hs : (P.info? elem).map (·.size) = some k)
    (hg : w.heap[g]? = some (.cells cur.toArray t (0, 0))) (hn : cs.length = Nat.min sLen dLen * k)
    (hsrc : ∀ j v, cs[j]? = some v → w.cell? (a.add j) = some v) (hfit : o + cs.length ≤ cur.length) (h1 : ∀ v ∈ cs, v.oneCell' = true) :
    ∃ v' w', (Builtin.copy_ #[dT, sT] ty #[.slice (some ⟨g, o, none⟩) dLen dCap, .slice (some a) sLen sCap]).run P w = .ok v' w' ∧ w'.heap[g]? = some (.cells (splice cur o cs).toArray t (0, 0)) ∧ w.grownBy w' (some g) := by
  have hl := run_loadCells_list (P := P) w a cs hsrc
  have hst := run_storeCells_at P g o t cs 0 cur.toArray w hg (by simpa using hfit) h1
  refine ⟨goInt (Nat.min sLen dLen), w.setRow g (splice cur o cs).toArray, ?_, setRow_heap w g _ _ t _ hg, ⟨rfl, rfl, rfl, by simp [World.setRow], fun n _ hne => setRow_other w g n _ (fun e => hne (by rw [e]))⟩⟩
  cases hq : P.info? elem with
  | none => simp [hq] at hs
  | some i =>
    have hi : i.size = k := by simpa [hq] using hs
    have hst' : (storeCells ⟨g, o, none⟩ cs).run P w = .ok () (w.setRow g (splice cur o cs).toArray) := by
      simpa [splice, List.append_assoc] using hst
    simp [Builtin.copy_, run_underlying hu, Builtin.lenOf, Builtin.firstCells, sizeOf, typeInfo, hq, hi, ← hn, hl, hst']
/-- copy as one operation: of elements of k cells, into a block that is known whole. -/
theorem wp_copy_k {P : Program} (w : World) (k : Nat) {o : Oper} {a : Act} {K : Act → World → Prop} {Q : Exit → Act → World → Prop} (d s : Operand) (dT sT : TypeId)
    (ho : o.op = .call { callee := .builtin .copy, args := #[d, s], argTypes := #[dT, sT] }) (elem : TypeId) (hu : P.underlying dT = some (.slice elem)) (hs : (P.info? elem).map (·.size) = some k)
    (g off dLen dCap : Nat) (ad : Addr) (sLen sCap : Nat) (hd : a.eval d = .slice (some ⟨g, off, none⟩) dLen dCap) (hx : a.eval s = .slice (some ad) sLen sCap)
    (cur : List Value) (t : TypeId) (cs : List Value) (hg : w.heap[g]? = some (.cells cur.toArray t (0, 0))) (hn : cs.length = Nat.min sLen dLen * k)
    (hsrc : ∀ j v, cs[j]? = some v → w.cell? (ad.add j) = some v) (hfit : off + cs.length ≤ cur.length) (h1 : ∀ v ∈ cs, v.oneCell' = true)
    (h : ∀ v' w', Hid (w'.heap[g]? = some (.cells (splice cur off cs).toArray t (0, 0))) → w.grownBy w' (some g) → K (a.put o.dst v') w') : o.wp P a w K Q := by
  obtain ⟨v', w', hr, h2, h3⟩ := run_copy_k (P := P) w k dT sT o.type elem g off dLen dCap ad sLen sCap cur t cs hu hs hg hn hsrc hfit h1
  unfold Oper.wp execOp
  simp only [ho, resolve, invoke, builtin, Sem.run_bind, Sem.run_pure, Result.andThen_ok, List.map_toArray, List.map_cons, List.map_nil, hd, hx, hr]
  exact h v' w' h2 h3
theorem wpList_copy_k {P : Program} (w : World) (k : Nat) {ops : Array Oper} {rest : List Oper} {o : Oper} {a : Act} {Q : Exit → Act → World → Prop} (hgd : o.guard = none) (d s : Operand) (dT sT : TypeId)
    (ho : o.op = .call { callee := .builtin .copy, args := #[d, s], argTypes := #[dT, sT] }) (elem : TypeId) (hu : P.underlying dT = some (.slice elem)) (hs : (P.info? elem).map (·.size) = some k)
    (g off dLen dCap : Nat) (ad : Addr) (sLen sCap : Nat) (hd : a.eval d = .slice (some ⟨g, off, none⟩) dLen dCap) (hx : a.eval s = .slice (some ad) sLen sCap)
    (cur : List Value) (t : TypeId) (cs : List Value) (hg : w.heap[g]? = some (.cells cur.toArray t (0, 0))) (hn : cs.length = Nat.min sLen dLen * k)
    (hsrc : ∀ j v, cs[j]? = some v → w.cell? (ad.add j) = some v) (hfit : off + cs.length ≤ cur.length) (h1 : ∀ v ∈ cs, v.oneCell' = true)
    (h : ∀ v' w', Hid (w'.heap[g]? = some (.cells (splice cur off cs).toArray t (0, 0))) → w.grownBy w' (some g) → wpList P ops Q rest (a.put o.dst v') w') : wpList P ops Q (o :: rest) a w :=
  wpList_plain hgd fun _ hK => wp_copy_k w k d s dT sT ho elem hu hs g off dLen dCap ad sLen sCap hd hx cur t cs hg hn hsrc hfit h1 (fun v' w' h2 h3 => hK _ _ (h v' w' h2 h3))

/-- A value that takes one cell. -/
def One (v : Value) : Prop := v.oneCell' = true
theorem InA.one {W : World} {A : Nat → Prop} {v : Value} {q : List Int} (h : InA W A v q) : v.oneCell' = true := by
  obtain ⟨⟨g, -, e, -⟩, -⟩ := h; subst e; rfl
theorem cellsR_one {W : World} {A : Nat → Prop} {r : List Rec} (h : ∀ x ∈ r, RecAt W A x) : ∀ u ∈ cellsR r, u.oneCell' = true := by
  intro u hu
  obtain ⟨x, hx, hu⟩ := List.mem_flatMap.1 hu
  simp at hu
  rcases hu with rfl | rfl
  · exact (h x hx).1.one
  · exact (h x hx).2.one
theorem cellsR_app (r q : List Rec) : cellsR (r ++ q) = cellsR r ++ cellsR q := by simp [cellsR]
theorem cellsR_take (r : List Rec) (i : Nat) (hi : i ≤ r.length) : (cellsR r).take (i * 2) = cellsR (r.take i) := by
  have e : cellsR r = cellsR (r.take i) ++ cellsR (r.drop i) := by rw [← cellsR_app, List.take_append_drop]
  have hl : (cellsR (r.take i)).length = i * 2 := by rw [cellsR_len, List.length_take]; congr 1; omega
  rw [e, ← hl, List.take_left]
theorem cellsR_drop (r : List Rec) (i : Nat) (hi : i ≤ r.length) : (cellsR r).drop (i * 2) = cellsR (r.drop i) := by
  have e : cellsR r = cellsR (r.take i) ++ cellsR (r.drop i) := by rw [← cellsR_app, List.take_append_drop]
  have hl : (cellsR (r.take i)).length = i * 2 := by rw [cellsR_len, List.length_take]; congr 1; omega
  rw [e, ← hl, List.drop_left]
theorem splice_mid {α : Type} (X M R cs : List α) (h : M.length = cs.length) : splice (X ++ (M ++ R)) X.length cs = X ++ (cs ++ R) := by
  unfold splice
  rw [List.take_left, List.drop_length_add_append, ← h, List.drop_left]
theorem splice_two {α : Type} (X Y V R : List α) (hV : V.length = 2) (hR : 2 ≤ R.length) : splice (splice (X ++ (Y ++ R)) (X.length + 2) Y) X.length V = X ++ (V ++ (Y ++ R.drop 2)) := by
  have hT : ((Y ++ R).take 2).length = 2 := by rw [List.length_take, List.length_append]; omega
  have hM : (((Y ++ R).drop 2).take Y.length).length = Y.length := by rw [List.length_take, List.length_drop, List.length_append]; omega
  have e : Y ++ R = (Y ++ R).take 2 ++ (((Y ++ R).drop 2).take Y.length ++ ((Y ++ R).drop 2).drop Y.length) := by rw [List.take_append_drop, List.take_append_drop]
  have e2 : ((Y ++ R).drop 2).drop Y.length = R.drop 2 := by rw [List.drop_drop, Nat.add_comm, List.drop_length_add_append]
  rw [e2] at e
  generalize (Y ++ R).take 2 = T at *
  generalize ((Y ++ R).drop 2).take Y.length = M at *
  rw [e, ← List.append_assoc X T, show X.length + 2 = (X ++ T).length by rw [List.length_append, hT], splice_mid _ _ _ _ hM, List.append_assoc, splice_mid _ _ _ _ (by rw [hT, hV])]
theorem splice_fill {α : Type} (X Z1 Z2 V Y : List α) (hZ : Z1.length = V.length + Y.length) : splice (splice (X ++ (Z1 ++ Z2)) X.length V) (X.length + V.length) Y = X ++ (V ++ (Y ++ Z2)) := by
  have e : Z1 = Z1.take V.length ++ Z1.drop V.length := (List.take_append_drop _ _).symm
  have hT : (Z1.take V.length).length = V.length := by rw [List.length_take]; omega
  have hM : (Z1.drop V.length).length = Y.length := by rw [List.length_drop]; omega
  generalize Z1.take V.length = T at *
  generalize Z1.drop V.length = M at *
  subst e
  rw [List.append_assoc T, splice_mid _ _ _ _ hT, ← List.append_assoc X V, ← List.length_append, splice_mid _ _ _ _ hM, List.append_assoc]
theorem zeroCells_len (z : Array Value) (n : Nat) : (Builtin.zeroCells z n).toList.length = n * z.size := by simp [Builtin.zeroCells]
end Go.Proofs.Ytjhjgncnadhbhaa

/- slices.Insert at any place; slices.Delete. -/
namespace Go.Proofs.Ytjhjgncnadhbhaa
open Go.RowKit

theorem wp_append_fits {P : Program} (w : World) {o : Oper} {a : Act} {K : Act → World → Prop} {Q : Exit → Act → World → Prop} (s x : Operand) (t : TypeId)
    (ho : o.op = .call { callee := .builtin .append, args := #[s, x], argTypes := #[t, t] }) (base : Nat) (e : TypeId) (i : TypeInfo) (size : Nat) (ht : P.underlying t = some (.slice e)) (hi : P.info? e = some i) (hsize : i.size = size)
    (g n cap : Nat) (xs : List Value) (hown : w.ownsRow base e size (.slice (some ⟨g, 0, none⟩) n cap) n xs) (hs : a.eval s = .slice (some ⟨g, 0, none⟩) n cap)
    (ad : Addr) (m c : Nat) (news : List Value) (hx : a.eval x = .slice (some ad) m c) (hl : news.length = m * size) (hnews : ∀ j u, news[j]? = some u → w.cell? (ad.add j) = some u) (h1 : ∀ u ∈ news, u.oneCell' = true) (hroom : n + m ≤ cap)
    (h : ∀ w', w'.ownsRow base e size (.slice (some ⟨g, 0, none⟩) (n + m) cap) (n + m) (xs ++ news) → w.grownBy w' (some g) → K (a.put o.dst (.slice (some ⟨g, 0, none⟩) (n + m) cap)) w') : o.wp P a w K Q := by
  obtain ⟨w', hr, h2, h3⟩ := run_append_fits (P := P) w base t o.type e i size ht hi hsize g n cap xs hown ad m c news hl hnews h1 hroom
  unfold Oper.wp execOp
  simp only [ho, resolve, invoke, builtin, Sem.run_bind, Sem.run_pure, Result.andThen_ok, List.map_toArray, List.map_cons, List.map_nil, hs, hx, hr]
  exact h w' h2 h3
end Go.Proofs.Ytjhjgncnadhbhaa

/- store: what a turned row leaves; where a key is; how many there are. -/
namespace Go.Proofs.Ytjhjgncnadhbhaa
open Go.RowKit

/-- Nothing that was there has turned but what is the store's; what is the store's was it, or is new. -/
structure Fr (W W' : World) (A A' : Nat → Prop) : Prop where
  os : W'.os = W.os
  tape : W'.tape = W.tape
  output : W'.output = W.output
  size : W.heap.size ≤ W'.heap.size
  block : ∀ k, k < W.heap.size → ¬ A k → W'.heap[k]? = W.heap[k]?
  sub : ∀ k, A' k → A k ∨ W.heap.size ≤ k
  sup : ∀ k, A k → A' k
theorem Fr.trans {U V W : World} {A B C : Nat → Prop} (h : Fr U V A B) (k : Fr V W B C) : Fr U W A C := by
  refine ⟨k.os.trans h.os, k.tape.trans h.tape, k.output.trans h.output, Nat.le_trans h.size k.size, fun n hn hA => (k.block n (Nat.lt_of_lt_of_le hn h.size) (fun hB => ?_)).trans (h.block n hn hA), fun n hC => ?_, fun n hA => k.sup n (h.sup n hA)⟩
  · rcases h.sub n hB with h1 | h1
    · exact hA h1
    · omega
  · rcases k.sub n hC with h1 | h1
    · exact h.sub n h1
    · exact .inr (Nat.le_trans h.size h1)
theorem Fr.below {W W' : World} {A : Nat → Prop} (h : Below W.heap.size W W') : Fr W W' A A := ⟨h.os, h.tape, h.output, h.size, fun k hk _ => h.block k hk, fun _ h => .inl h, fun _ h => h⟩
/-- More is the store's. -/
theorem Fr.more {W : World} {A B : Nat → Prop} (h : ∀ k, A k → B k) (hb : ∀ k, B k → A k ∨ W.heap.size ≤ k) : Fr W W A B := ⟨rfl, rfl, rfl, Nat.le_refl _, fun _ _ _ => rfl, hb, h⟩
theorem Fr.out {w W W' : World} {A B : Nat → Prop} (h : Below w.heap.size w W) (k : Fr W W' A B) (hA : ∀ n, A n → w.heap.size ≤ n) : Below w.heap.size w W' :=
  ⟨k.os.trans h.os, k.tape.trans h.tape, k.output.trans h.output, Nat.le_trans h.size k.size, fun n hn => (k.block n (Nat.lt_of_lt_of_le hn h.size) (fun e => by have := hA n e; omega)).trans (h.block n hn)⟩
/-- Bytes are where no row of another kind turns. -/
theorem InA.grow {W W' : World} {A : Nat → Prop} {v u : Value} {q : List Int} {base : Nat} {e : TypeId} {size n : Nat} {xs : List Value} (h : InA W A v q) (hr : W.ownsRow base e size u n xs) (he : 5 ≠ e) (hg : W.grownBy W' u.ownBlock) : InA W' A v q := by
  obtain ⟨⟨g, h1, h2⟩, h3⟩ := h
  exact ⟨⟨g, h1, h2.kept (hg.block g h2.lt (not_row h2.2 he hr))⟩, h3⟩
theorem RecAt.grow {W W' : World} {A : Nat → Prop} {x : Rec} {u : Value} {base : Nat} {e : TypeId} {size n : Nat} {xs : List Value} (h : RecAt W A x) (hr : W.ownsRow base e size u n xs) (he : 5 ≠ e) (hg : W.grownBy W' u.ownBlock) : RecAt W' A x := ⟨h.1.grow hr he hg, h.2.grow hr he hg⟩
theorem WasAt.grow {W W' : World} {A : Nat → Prop} {x : Was} {u : Value} {base : Nat} {e : TypeId} {size n : Nat} {xs : List Value} (h : WasAt W A x) (hr : W.ownsRow base e size u n xs) (he : 5 ≠ e) (hg : W.grownBy W' u.ownBlock) : WasAt W' A x := ⟨h.1.grow hr he hg, fun t => (h.2.1 t).grow hr he hg, h.2.2⟩
theorem row_set_other {W : World} {base : Nat} {e : TypeId} {size n s o : Nat} {v u : Value} {xs : List Value} {c : Array Value} {t : TypeId} (h : W.ownsRow base e size v n xs) (hs : W.heap[s]? = some (.cells c t (0, 0))) (ht : t ≠ e) : (W.setCell ⟨s, o, none⟩ u).ownsRow base e size v n xs :=
  h.kept (grown_se (grown_ref W (some s)) o u) (.inr (fun e => not_row hs ht h e.symm))
section
variable {W : World} {s base : Nat} {A : Nat → Prop} {vp vj vb : Value} {r : List Rec} {j : List Was} {b : List Nat}
end
end Go.Proofs.Ytjhjgncnadhbhaa
