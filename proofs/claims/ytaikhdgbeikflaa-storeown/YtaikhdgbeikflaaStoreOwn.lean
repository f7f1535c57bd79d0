
/- For all keys, values and bytes jointurelaw05.StoreOwn returns true and writes nothing that was there: what was handed in to a store, and what it answered, may be written over, and the store is as it was. No condition. -/
import Derived.Test.YtaikhdgbeikflaaO13
import Derived.Test.YtaikhdgbeikflaaV6
set_option linter.unusedSimpArgs false
set_option linter.unusedVariables false
namespace Go.Proofs.Ytaikhdgbeikflaa
open Go.ChangeShapes Go.WideShapes Go.ChangeAt Go.RowKit

set_option maxHeartbeats 4000000 in
theorem storeOwn_long (a b : Option Addr) (la lb ca cb : Nat) (c : Int) (h : 100 < la ∨ 100 < lb) (hm : la ≤ 9223372036854775807) (hn : lb ≤ 9223372036854775807) (w : World) :
    Calls Try.prog 9 #[.slice a la ca, .slice b lb cb, .int .u8 c] w fun e w' => e = .returned (.bool true) ∧ Below w.heap.size w w' := by
  by_cases h1 : 100 < la
  · have h' : (100 : Int) < (la : Int) := by omega
    go_enter Try.func9, Try.ntmps9
    go_wp2_with (first
      | (go_at_call 11; refine (rolls_any w).mono ?_; rintro e w1 ⟨rfl, hb1⟩)
      | (go_at_call 11; refine (rolls_any w1).mono ?_; rintro e w2 ⟨rfl, hb2⟩))
    go_ret
    exact ⟨rfl, bt hb1 hb2⟩
  · have h' : ¬ (100 : Int) < (la : Int) := by omega
    have h'' : (100 : Int) < (lb : Int) := by omega
    go_enter Try.func9, Try.ntmps9
    go_wp2_with (first
      | (go_at_call 11; refine (rolls_any w).mono ?_; rintro e w1 ⟨rfl, hb1⟩)
      | (go_at_call 11; refine (rolls_any w1).mono ?_; rintro e w2 ⟨rfl, hb2⟩))
    go_ret
    exact ⟨rfl, bt hb1 hb2⟩
/-- Bytes that may be written over: whatever they are. -/
def Buf (W : World) (base : Nat) (v : Value) (n : Nat) : Prop := ∃ xs, W.ownsRow base 5 1 v n xs
theorem Buf.at {W : World} {base i : Nat} {v : Value} {n : Nat} (h : Buf W base v n) (hi : i < n) : ∃ g cap u, v = .slice (some ⟨g, 0, none⟩) n cap ∧ base ≤ g ∧ g < W.heap.size ∧ W.cell? ⟨g, i, none⟩ = some u ∧ W.frozen? ⟨g, i, none⟩ = false ∧ ∀ x, Buf (W.setCell ⟨g, i, none⟩ x) base v n := by
  obtain ⟨xs, h⟩ := h
  rcases h.2 with ⟨_, h0⟩ | ⟨g, cap, cur, rfl, h1, h2, _⟩
  · omega
  · have hl := h.1
    have hc := World.ownsRow.cellAt h i (by omega)
    rw [List.getElem?_eq_getElem (by omega)] at hc
    exact ⟨g, cap, _, rfl, h1, (Array.getElem?_eq_some_iff.1 h2).1, hc, World.ownsRow.frozenAt h i, fun x => ⟨_, (World.ownsRow.stored h i x).1⟩⟩
theorem Buf.kept {W W' : World} {base : Nat} {v : Value} {n : Nat} (h : Buf W base v n) (e : ∀ g, v.ownBlock = some g → W'.heap[g]? = W.heap[g]?) : Buf W' base v n := by
  obtain ⟨xs, h⟩ := h; exact ⟨xs, row_keep h e⟩
theorem Own.buf {W : World} {g : Nat} {v : Value} {q : List Int} (h : Own W g v q) (hl : q.length ≤ 1048576) {base : Nat} (hb : base ≤ g) : Buf W base v q.length := by
  obtain ⟨rfl, hb2⟩ := h
  exact ⟨encB q, by simp [encB], .inr ⟨g, q.length, _, rfl, hb, hb2, Nat.le_refl _, by unfold maxLen; omega, by simp [encB], by rw [List.toList_toArray, Nat.mul_one]; exact List.take_of_length_le (by simp [encB])⟩⟩
theorem set_below {w X : World} {g i : Nat} {x : Value} (h : Below w.heap.size w X) (hg : w.heap.size ≤ g) : Below w.heap.size w (X.setCell ⟨g, i, none⟩ x) := h.setCell (p := ⟨g, i, none⟩) hg x
theorem StC.wr {W : World} {s base : Nat} {A : Nat → Prop} {vp vj vb : Value} {r : List Rec} {j : List Was} {b : List Nat} (h : StC W s base A vp vj vb r j b) {g i : Nat} (x : Value) (hg : ¬ A g) : StC (W.setCell ⟨g, i, none⟩ x) s base A vp vj vb r j b :=
  h.kept (fun k hk => Below.heap_setCell W ⟨g, i, none⟩ x k (fun e => hg (by have e' : k = g := e; rw [← e']; exact hk))) (by simp [World.setCell])
theorem Own.isb {W : World} {g : Nat} {v : Value} {q : List Int} (h : Own W g v q) (hl : q.length ≤ 1048576) : IsBytes W v q := by
  obtain ⟨rfl, hb⟩ := h
  refine .inr ⟨g, 0, q.length, rfl, by omega, (Array.getElem?_eq_some_iff.1 hb).1, fun i x hi => ?_⟩
  rw [(cells_of_block hb).1]; simp [encB, hi]
theorem keys_all {r : List Rec} {i : Nat} {f : Bool} (h : FindS r [] i f) : runS (r.drop i) [] = r.map (·.k) := by
  have h0 : i = 0 := by
    rcases Nat.eq_zero_or_pos i with h0 | h0
    · exact h0
    · have hl := h.le
      have := h.lo 0 _ h0 (List.getElem?_eq_getElem (show 0 < r.length by omega))
      cases hk : r[0].k with
      | nil => rw [hk] at this; simp [cmpB] at this
      | cons x l => rw [hk] at this; simp [cmpB] at this
  subst h0
  rw [List.drop_zero, runS_stop (m := r.length) (fun x _ => by simp [begs]) (.inl rfl), List.take_length]
theorem one_key {ks : List (Value × List Int)} {k : List Int} (h : ks.map (·.2) = [k]) : ∃ kk, ks = [(kk, k)] := by
  match ks, h with
  | [(kk, q)], h => simp at h; subst h; exact ⟨kk, rfl⟩
theorem one_row {W : World} {base : Nat} {v kk : Value} {k : List Int} (h : W.ownsRow base 33 1 v [(kk, k)].length ([(kk, k)].map (·.1))) : ∃ gl lc, v = .slice (some ⟨gl, 0, none⟩) 1 lc ∧ gl < W.heap.size ∧ W.cell? ⟨gl, 0, none⟩ = some kk ∧ ∀ (g : Nat) (cs : Array Value) (z : Nat × Nat), W.heap[g]? = some (.cells cs 5 z) → ¬ gl = g := by
  rcases h.2 with ⟨_, h0⟩ | ⟨g, cap, cur, rfl, h1, h2, h3⟩
  · simp at h0
  · have hc := World.ownsRow.cellAt h 0 (by simp)
    refine ⟨g, cap, rfl, (Array.getElem?_eq_some_iff.1 h2).1, by simpa using hc, fun g' cs z hg' e => ?_⟩
    subst e
    rw [h2] at hg'
    simp at hg'
theorem cell_other {X : World} {g gl i : Nat} {x y : Value} (h : X.cell? ⟨gl, 0, none⟩ = some y) (hne : ¬ gl = g) : (X.setCell ⟨g, i, none⟩ x).cell? ⟨gl, 0, none⟩ = some y :=
  (World.cell?_of_block (a := ⟨gl, 0, none⟩) (Below.heap_setCell X ⟨g, i, none⟩ x gl hne)).trans h
set_option maxRecDepth 10000 in
set_option maxHeartbeats 16000000 in
theorem storeOwn_w (a b : Option Addr) (la lb ca cb : Nat) (c : Int) (h1 : la ≤ 100) (h2 : lb ≤ 100) (w : World) (k v : List Int) (E F : Option Nat) (hk : Src w (.slice a la ca) k) (hkt : Byt w E (.slice a la ca) k) (hkl : k.length = la) (hkb : Byte k) (hv : Src w (.slice b lb cb) v) (hvt : Byt w F (.slice b lb cb) v) (hvl : v.length = lb) (hvb : Byte v) :
    Calls Try.prog 9 #[.slice a la ca, .slice b lb cb, .int .u8 c] w fun e w' => e = .returned (.bool true) ∧ Below w.heap.size w w' := by
  subst hkl hvl
  have h' : ¬ (100 : Int) < (k.length : Int) := by omega
  have h'' : ¬ (100 : Int) < (v.length : Int) := by omega
  go_enter Try.func9, Try.ntmps9
  go_wp2_with (first
    | (go_at_call 11; refine (rolls_any w).mono ?_; rintro e w1 ⟨rfl, hb1⟩)
    | (go_at_call 13; refine (new_any w1).mono ?_; rintro e w2 ⟨rfl, n2, hb2⟩; have B2 := bt hb1 hb2; have J1 := join_any (by omega) (hk.kept (grown_none B2)))
    | (go_at_call 31; refine J1.mono ?_; clear J1; rintro e w3 ⟨kv, rfl, ok3, hb3⟩; have B3 := bt B2 hb3; have J2 := join_any (by omega) (hv.kept (grown_none B3)); obtain ⟨kva, kvc, rfl⟩ := row_slice ok3)
    | (go_at_call 31; refine J2.mono ?_; clear J2; rintro e w4 ⟨vv, rfl, ov4, hb4⟩; have B4 := bt B3 hb4; have ok4 := none_row ok3 (grown_none hb4); have n4 := (n2.below hb3).below hb4; obtain ⟨vva, vvc, rfl⟩ := row_slice ov4; have S5 := set_any n4 List.Pairwise.nil (by simp) (by simp) (src_own ok4) (src_own ov4) hkb hvb (by omega) (by omega) (fun g hg hA => (by have := (ok3.lt g hg).1; have := (n2.foot g hA).2; omega)) (fun g hg hA => (by have := (ov4.lt g hg).1; have := ((n2.below hb3).foot g hA).2; omega)))
    | (go_at_call 32; refine S5.mono ?_; clear S5; rintro e w5 ⟨rfl, A5, vp5, vj5, r5, j5, n5, hs5, hc5, hl5, hj5, f5⟩))
  obtain rfl : j5 = [] := by rcases hj5 with ⟨-, e⟩ | ⟨e, -⟩; exact e; exact absurd rfl e
  have hc5' : cont r5 = [(k, v)] := by rw [hc5]; rfl
  have hr5l : r5.length ≤ 1 := by simpa using hl5
  have hw1 := hb1.size
  have B5 : Below w.heap.size w w5 := Fr.out B4 f5 (fun n hn => by subst hn; exact hw1)
  have hKk := ok3.lt
  have hVv := ov4.lt
  have hz34 := hb4.size
  have aK : ∀ g, (Value.slice kva k.length kvc).ownBlock = some g → ¬ A5 g := fun g hg hA => by
    have e1 := hKk g hg
    have e2 := (n2.foot w1.heap.size rfl).2
    rcases f5.sub g hA with e | e
    · omega
    · omega
  have aV : ∀ g, (Value.slice vva v.length vvc).ownBlock = some g → ¬ A5 g := fun g hg hA => by
    have e1 := hVv g hg
    have e2 := ((n2.below hb3).foot w1.heap.size rfl).2
    rcases f5.sub g hA with e | e
    · omega
    · omega
  have hz2 : w.heap.size ≤ w2.heap.size := B2.size
  have hz3 : w.heap.size ≤ w3.heap.size := B3.size
  have hK5 : Buf w5 w.heap.size (.slice kva k.length kvc) k.length := ⟨_, row_keep (row_base ok4 hz2) (fun g hg => f5.block g (ok4.lt g hg).2 (fun hA => by have := hKk g hg; have := (n2.foot w1.heap.size rfl).2; omega))⟩
  have hV5 : Buf w5 w.heap.size (.slice vva v.length vvc) v.length := ⟨_, row_keep (row_base ov4 hz3) (fun g hg => f5.block g (hVv g hg).2 (fun hA => by have := hVv g hg; have := ((n2.below hb3).foot w1.heap.size rfl).2; omega))⟩
  have hapart : ∀ g, (Value.slice kva k.length kvc).ownBlock = some g → ∀ g', (Value.slice vva v.length vvc).ownBlock = some g' → ¬ g' = g := fun g hg g' hg' e => by have := hKk g hg; have := hVv g' hg'; omega
  clear ok3 ok4 ov4 n4 n2 f5 hj5 hl5 hc5 hKk hVv hb2 hb3 hb4 B2 B3 B4
  generalize w1.heap.size = s5 at *
  go_loopw [10] (fun iv X => ∃ (i : Nat), i ≤ k.length ∧ iv = .int .i64 (i : Int) ∧ Buf X w.heap.size (.slice kva k.length kvc) k.length ∧ Buf X w.heap.size (.slice vva v.length vvc) v.length ∧ StC X s5 s5 A5 vp5 vj5 (.slice none 0 0) r5 [] [] ∧ Below w.heap.size w X) (fun iv _ => k.length - (intOf iv).toNat)
  case atStart => exact ⟨0, by omega, rfl, hK5, hV5, n5, B5⟩
  case round =>
    clear hK5 hV5 n5 B5
    obtain ⟨i, hi, rfl, hK, hV, hZ, hB⟩ := hrel
    by_cases hlt : i < k.length
    · obtain ⟨g, cap, u0, ev, hg1, hg2, c0, f0, hset⟩ := hK.at hlt
      simp at ev
      obtain ⟨rfl, rfl⟩ := ev
      have hlt' : (i : Int) < (k.length : Int) := by omega
      have hV' := hV.kept (W' := wr.setCell ⟨g, i, none⟩ (.int .u8 c)) (fun g' hg' => Below.heap_setCell wr ⟨g, i, none⟩ _ g' (hapart g rfl g' hg'))
      have hZ' := hZ.wr (i := i) (.int .u8 c) (aK g rfl)
      have hS' := hset (.int .u8 c)
      go_wp2
      all_goals go_roundw
      case rel => exact ⟨i + 1, by omega, by go_num, hS', hV', hZ', set_below hB hg1⟩
      case measure => (simp [intOf]; omega)
    · obtain rfl : i = k.length := by omega
      go_wp2
      go_loopw [11] (fun iv X => ∃ (i : Nat), i ≤ v.length ∧ iv = .int .i64 (i : Int) ∧ Buf X w.heap.size (.slice vva v.length vvc) v.length ∧ StC X s5 s5 A5 vp5 vj5 (.slice none 0 0) r5 [] [] ∧ Below w.heap.size w X) (fun iv _ => v.length - (intOf iv).toNat)
      case atStart => exact ⟨0, by omega, rfl, hV, hZ, hB⟩
      case round =>
        clear hK hV hZ hB
        obtain ⟨i, hi, rfl, hV, hZ, hB⟩ := hrel
        by_cases hlt : i < v.length
        · obtain ⟨g, cap, u0, ev, hg1, hg2, c0, f0, hset⟩ := hV.at hlt
          simp at ev
          obtain ⟨rfl, rfl⟩ := ev
          have hlt' : (i : Int) < (v.length : Int) := by omega
          have hZ' := hZ.wr (i := i) (.int .u8 c) (aV g rfl)
          have hS' := hset (.int .u8 c)
          go_wp2
          all_goals go_roundw
          case rel => exact ⟨i + 1, by omega, by go_num, hS', hZ', set_below hB hg1⟩
          case measure => (simp [intOf]; omega)
        · obtain rfl : i = v.length := by omega
          have hgv : getS (cont r5) k = some v := by rw [hc5']; simp [getS, cmp_self]
          have G6 := get_any hZ hs5 (by omega) (hk.kept (grown_none hB)) hkb
          rw [hgv] at G6
          go_wp2_with (first
            | (go_at_call 28; refine G6.mono ?_; clear G6; rintro e w6 ⟨hb6, e6⟩; obtain ⟨pv, gp, q6, e7, rfl, ho6, hgp, -, -⟩ := e6.resolve_left (fun e => by cases e.1); obtain rfl : v = q6 := (by simpa using e7); have hZ6 := hZ.below hb6; have B6 := bt hB hb6; have K7 := keys_any hZ6 hs5 (by omega) (.inl ⟨rfl, rfl⟩) (p := []) (by intro x hx; simp at hx) (by simp); obtain rfl := ho6.1)
            | (go_at_call 23; (refine K7.mono ?_; clear K7; rintro e w7 ⟨lv, ks, i7, f7, rfl, hK7, hF7, hks7, hb7⟩; rw [keys_all hF7, show r5.map (·.k) = [k] from (by have := congrArg (List.map (·.1)) hc5'; simpa [cont] using this)] at hks7; have B7 := bt B6 hb7; have hZ7 := hZ6.below hb7; have ho7 := ho6.kept (hb7.block gp ho6.lt); have hS7 := same_any w7 (ho7.isb (by omega)) (hvt.is.below B7); rw [decide_eq_true rfl] at hS7; obtain ⟨kk, rfl⟩ : ∃ kk, ks = [(kk, k)] := one_key hks7; obtain ⟨gk7, hgk7, hok7⟩ := hK7.own _ (List.mem_singleton.2 rfl); have hok7 : Own w7 gk7 kk k := hok7; obtain ⟨gl, lc, rfl, hgl, cl7, hne7⟩ := one_row hK7.row; have hnp := hne7 gp _ _ ho7.2; have hnk := hne7 gk7 _ _ hok7.2; obtain rfl : kk = _ := hok7.1; have hpk : ¬ gp = gk7 := (by have := ho6.lt; omega)))
            | (go_at_call 25; refine hS7.mono ?_; clear hS7; rintro e w8 ⟨rfl, hb8⟩; have B8 := bt B7 hb8; have hZ8 := hZ7.below hb8; have cl8 := (hb8.cell (p := ⟨gl, 0, none⟩) hgl).trans cl7; have hok8 := hok7.kept (hb8.block gk7 hok7.lt); have ho8 := ho7.kept (hb8.block gp ho7.lt); have hS8 := same_any w8 (hok8.isb (by omega)) (hkt.is.below B8); rw [decide_eq_true rfl] at hS8)
            | (go_at_call 25; refine hS8.mono ?_; clear hS8; rintro e w9 ⟨rfl, hb9⟩; have B9 := bt B8 hb9; have hZ9 := hZ8.below hb9; have cl9 := (hb9.cell (p := ⟨gl, 0, none⟩) (Nat.lt_of_lt_of_le hgl hb8.size)).trans cl8; have hok9 := hok8.kept (hb9.block gk7 hok8.lt); have ho9 := ho8.kept (hb9.block gp ho8.lt)))
          have aP : ¬ A5 gp := fun hA => by have := (hZ.foot gp hA).2; omega
          have aK7 : ¬ A5 gk7 := fun hA => by have := (hZ6.foot gk7 hA).2; omega
          have hz6 : w.heap.size ≤ gp := Nat.le_trans hB.size hgp
          have hz7 : w.heap.size ≤ gk7 := Nat.le_trans B6.size hgk7
          have hP9 : Buf w9 w.heap.size (.slice (some ⟨gp, 0, none⟩) v.length v.length) v.length := ho9.buf (by omega) hz6
          have hQ9 : Buf w9 w.heap.size (.slice (some ⟨gk7, 0, none⟩) k.length k.length) k.length := hok9.buf (by omega) hz7
          clear hZ6 hZ7 hZ8 B6 B7 B8 hb6 hb7 hb8 hb9 ho6 ho7 ho8 ho9 hok7 hok8 hok9 cl7 cl8 hK7 hF7 hV hne7 e6 e7
          go_loopw [15] (fun iv X => ∃ (i : Nat), i ≤ v.length ∧ iv = .int .i64 (i : Int) ∧ Buf X w.heap.size (.slice (some ⟨gp, 0, none⟩) v.length v.length) v.length ∧ Buf X w.heap.size (.slice (some ⟨gk7, 0, none⟩) k.length k.length) k.length ∧ X.cell? ⟨gl, 0, none⟩ = some (.slice (some ⟨gk7, 0, none⟩) k.length k.length) ∧ StC X s5 s5 A5 vp5 vj5 (.slice none 0 0) r5 [] [] ∧ Below w.heap.size w X) (fun iv _ => v.length - (intOf iv).toNat)
          case atStart => exact ⟨0, by omega, rfl, hP9, hQ9, cl9, hZ9, B9⟩
          case round =>
            clear hP9 hQ9 cl9 hZ9 B9 hZ hB
            obtain ⟨i, hi, rfl, hP, hQ, hcl, hZ, hB⟩ := hrel
            by_cases hlt : i < v.length
            · obtain ⟨g, cap, u0, ev, hg1, hg2, c0, f0, hset⟩ := hP.at hlt
              simp at ev
              obtain ⟨rfl, rfl⟩ := ev
              have hlt' : (i : Int) < (v.length : Int) := by omega
              have hZ' := hZ.wr (i := i) (.int .u8 c) aP
              have hS' := hset (.int .u8 c)
              have hQ' := hQ.kept (W' := wr.setCell ⟨gp, i, none⟩ (.int .u8 c)) (fun g' hg' => Below.heap_setCell wr ⟨gp, i, none⟩ _ g' (by simp [Value.ownBlock] at hg'; show ¬ g' = gp; omega))
              have hcl' := cell_other (i := i) (x := .int .u8 c) hcl hnp
              have hlv : (i : Int) < (v.length : Int) := by omega
              go_wp2
              all_goals go_roundw
              case rel => exact ⟨i + 1, by omega, by go_num, hS', hQ', hcl', hZ', set_below hB hg1⟩
              case measure => (simp [intOf]; omega)
            · obtain rfl : i = v.length := by omega
              go_wp2
              go_loopw [16] (fun iv X => ∃ (i : Nat), i ≤ k.length ∧ iv = .int .i64 (i : Int) ∧ Buf X w.heap.size (.slice (some ⟨gk7, 0, none⟩) k.length k.length) k.length ∧ X.cell? ⟨gl, 0, none⟩ = some (.slice (some ⟨gk7, 0, none⟩) k.length k.length) ∧ StC X s5 s5 A5 vp5 vj5 (.slice none 0 0) r5 [] [] ∧ Below w.heap.size w X) (fun iv _ => k.length - (intOf iv).toNat)
              case atStart => exact ⟨0, by omega, rfl, hQ, hcl, hZ, hB⟩
              case round =>
                clear hP hQ hcl hZ hB
                obtain ⟨i, hi, rfl, hQ, hcl, hZ, hB⟩ := hrel
                by_cases hlt : i < k.length
                · obtain ⟨g, cap, u0, ev, hg1, hg2, c0, f0, hset⟩ := hQ.at hlt
                  simp at ev
                  obtain ⟨rfl, rfl⟩ := ev
                  have hlt' : (i : Int) < (k.length : Int) := by omega
                  have hZ' := hZ.wr (i := i) (.int .u8 c) aK7
                  have hS' := hset (.int .u8 c)
                  have hcl' := cell_other (i := i) (x := .int .u8 c) hcl hnk
                  go_wp2
                  all_goals go_roundw
                  case rel => exact ⟨i + 1, by omega, by go_num, hS', hcl', hZ', set_below hB hg1⟩
                  case measure => (simp [intOf]; omega)
                · obtain rfl : i = k.length := by omega
                  have G10 := get_any hZ hs5 (by omega) (hk.kept (grown_none hB)) hkb
                  rw [hgv] at G10
                  go_wp2_with (first
                    | (go_at_call 28; refine G10.mono ?_; clear G10; rintro e w10 ⟨hb10, e10⟩; obtain ⟨pv, g10, q10, e11, rfl, ho10, hgp10, -, -⟩ := e10.resolve_left (fun e => by cases e.1); obtain rfl : v = q10 := (by simpa using e11); have B10 := bt hB hb10; have hS10 := same_any w10 (ho10.isb (by omega)) (hvt.is.below B10); rw [decide_eq_true rfl] at hS10; obtain rfl := ho10.1)
                    | (go_at_call 25; refine hS10.mono ?_; rintro e w11 ⟨rfl, hb11⟩))
                  go_ret
                  exact ⟨rfl, bt B10 hb11⟩
theorem storeOwn_any {w : World} (a : Option Addr) (la ca : Nat) (b : Option Addr) (lb cb : Nat) (n : Int) (hm : la ≤ 9223372036854775807) (ho : la ≤ 1048576 → ∃ l : List Int, ∃ E : Option Nat, Src w (.slice a la ca) l ∧ Byt w E (.slice a la ca) l ∧ (∀ d, E = some d → d < w.heap.size) ∧ l.length = la ∧ ∀ b ∈ l, 0 ≤ b ∧ b ≤ 255) (hn : lb ≤ 9223372036854775807) (hp : lb ≤ 1048576 → ∃ l : List Int, ∃ E : Option Nat, Src w (.slice b lb cb) l ∧ Byt w E (.slice b lb cb) l ∧ (∀ d, E = some d → d < w.heap.size) ∧ l.length = lb ∧ ∀ b ∈ l, 0 ≤ b ∧ b ≤ 255) (_ : 0 ≤ n ∧ n ≤ 255) :
    Calls Try.prog 9 #[.slice a la ca, .slice b lb cb, .int .u8 n] w fun e w' => e = .returned (.bool true) ∧ Below w.heap.size w w' := by
  by_cases h : 100 < la ∨ 100 < lb
  · exact storeOwn_long a b la lb ca cb n h hm hn w
  · obtain ⟨l, E, i1, i2, i3, i4, i5⟩ := ho (by omega)
    obtain ⟨m, F, j1, j2, j3, j4, j5⟩ := hp (by omega)
    exact storeOwn_w a b la lb ca cb n (by omega) (by omega) w l m E F i1 i2 i4 i5 j1 j2 j4 j5

theorem storeOwn_own : ownKnob Try.prog.godebug = none := by kernel_rfl
theorem storeOwn_laid : laidOutB Try.prog = true := by kernel_rfl

set_option maxRecDepth 100000 in
theorem storeOwn_lifted (os : Os) (started : os.Started) (H : Type) (enc : TypeId × Value → H) :
    ReturnsInHanded {} Try.checked os 9 .any (Rows.storeOwnSpec.pre6 enc Try.prog Try.f9 Rows.storeOwnRow.domain false) (Rows.storeOwnSpec.post enc Try.prog Try.f9 false true false false) := by
  refine returnsInHanded_of_change (C := Try.checked) storeOwn_own started (by kernel_rfl) Try.func9
    (ChangeSpec.witness6 (enc := enc) (C := Try.checked) false ⟨#[], #[.slice none 0 0, .slice none 0 0, .int .u8 0], []⟩ 8 (by kernel_rfl) (by kernel_rfl) (by kernel_rfl) (by kernel_rfl)) ?_
  intro W base args ds gs before hval0 hW hcnd _
  have hval : ∀ (j : Nat) t v, Try.f9.params[j]? = some t → args[j]? = some v → Value.okWide Try.prog W .any base t v := hval0
  have hW' := hW
  obtain ⟨p, q, hA0, hV, rfl, hfz, hnd⟩ := hW
  have hA : DataW.TrodAll enc Try.prog W 0 (fun _ => true) true Try.f9.params.toList args.toList ds p := hA0
  rw [Try.params9] at hA hval
  obtain ⟨v0, vs0, d0, ds0, p0, q0, hargs0, rfl, rfl, h0, r0⟩ := trodAll_cons hA
  obtain ⟨v1, vs1, d1, ds1, p1, q1, hargs1, rfl, rfl, h1, r1⟩ := trodAll_cons r0
  obtain ⟨v2, vs2, d2, ds2, p2, q2, hargs2, rfl, rfl, h2, r2⟩ := trodAll_cons r1
  obtain ⟨rfl, rfl, rfl⟩ := trodAll_nil r2
  obtain rfl : args = #[v0, v1, v2] := by cases args; simp_all
  obtain ⟨rfl, rfl⟩ := trodVars_none hV
  have k0 := h0
  have lt0 : ∀ x ∈ p0, x.block < W.heap.size := by obtain ⟨m, hm⟩ := k0; exact DataW.trod_lt m _ _ _ hm
  have k1 := h1
  have lt1 : ∀ x ∈ p1, x.block < W.heap.size := by obtain ⟨m, hm⟩ := k1; exact DataW.trod_lt m _ _ _ hm
  have k2 := h2
  have lt2 : ∀ x ∈ p2, x.block < W.heap.size := by obtain ⟨m, hm⟩ := k2; exact DataW.trod_lt m _ _ _ hm
  obtain ⟨a0, len0, cap0, rfl⟩ := okWide_slice Try.underlying33 (hval 0 33 v0 rfl rfl)
  obtain ⟨fuel0, hf0⟩ := h0
  simp only [Value.cells] at hf0
  obtain ⟨a1, len1, cap1, rfl⟩ := okWide_slice Try.underlying33 (hval 1 33 v1 rfl rfl)
  obtain ⟨fuel1, hf1⟩ := h1
  simp only [Value.cells] at hf1
  obtain ⟨n2, rfl⟩ := okWide_int Try.underlying5 (hval 2 5 v2 rfl rfl)
  obtain ⟨fuel2, hf2⟩ := h2
  simp only [Value.cells] at hf2
  clear hA0 hval0
  have walk : Calls Try.prog 9 _ W fun e w' => e = .returned (.bool true) ∧ Below W.heap.size W w' := storeOwn_any a0 len0 cap0 a1 len1 cap1 n2 (slice_len Try.underlying33 hf0) (fun hl => bytes_open2 hf0 hl) (slice_len Try.underlying33 hf1) (fun hl => bytes_open2 hf1 hl) (u8_in hf2)
  refine walk.mono fun e W' ⟨he, bel⟩ => ?_
  subst he
  exact ⟨_, rfl, _, _, _, [], _, [], hW', trodAll_mk1 (shut_bool Try.underlying4 _), trodAll_cons_mk (Below.trod storeOwn_laid (by kernel_rfl) (of_decide_eq_true (by kernel_rfl)) k0 bel lt0) (trodAll_cons_mk (Below.trod storeOwn_laid (by kernel_rfl) (of_decide_eq_true (by kernel_rfl)) k1 bel lt1) (trodAll_cons_mk (Below.trod storeOwn_laid (by kernel_rfl) (of_decide_eq_true (by kernel_rfl)) k2 bel lt2) (trodAll_mk0))), rfl, bel.frame _, fun h => by cases h⟩

theorem storeOwn_holds : Rows.StoreOwnSaid :=
  OpenClaim.holds_of_wide 9 Try.f9 rfl rfl rfl rfl rfl rfl rfl ⟨rfl, rfl, rfl, rfl, rfl⟩ rfl rfl rfl rfl rfl (by kernel_rfl) Try.func9 (by kernel_rfl)
    (of_decide_eq_true (by kernel_rfl)) (by unfold Func.isWrapper; first | (rw [if_pos (by decide +kernel)]; kernel_rfl) | (rw [if_neg (by decide +kernel)]; exact ⟨rfl, rfl⟩))
    (fun os started H enc _ => storeOwn_lifted os started H enc)
#print axioms storeOwn_holds
end Go.Proofs.Ytaikhdgbeikflaa
