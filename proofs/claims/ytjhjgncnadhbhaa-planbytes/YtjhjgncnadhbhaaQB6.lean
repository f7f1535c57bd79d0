
/- Several texts, one behind the other: G18, G19, G20, G21, G22, G23, G24, G25, G26, PL5, PV, MA2. -/
import Derived.Test.YtjhjgncnadhbhaaQB5
import Derived.Test.YtjhjgncnadhbhaaC2
import Derived.Deep.RegionHeld2
import Derived.Test.YtjhjgncnadhbhaaV
import Derived.Test.YtjhjgncnadhbhaaV6
import Derived.Deep.CutRange
import Derived.Test.YtjhjgncnadhbhaaPL2
import Derived.Test.YtjhjgncnadhbhaaC18

/- codec's writer: truths, short and long numbers; the document's bytes of them. -/
set_option linter.unusedSimpArgs false
set_option linter.unusedVariables false
set_option maxRecDepth 20000
namespace Go.Proofs.Ytjhjgncnadhbhaa
open Go.RowKit

/-- A number in so many bytes, the highest first. -/
def be (n : Int) : Nat → List Int
  | 0 => []
  | k + 1 => (n / 256 ^ k % 256) :: be n k
theorem be_len (n : Int) : ∀ k, (be n k).length = k
  | 0 => rfl
  | k + 1 => by simp [be, be_len n k]

set_option maxHeartbeats 1000000 in
theorem wShort_any {W : World} {b base : Nat} {v : Value} {p : List Int} (x : Int) (hx : 0 ≤ x ∧ x < 65536) (hW : WrAt W b base v p) (hbase : base ≤ W.heap.size) (hl : p.length + 2 ≤ 1048576) :
    Calls Try.prog 43 #[.pointer (some ⟨b, 0, none⟩), .int .u16 x] W fun e w' => e = .returned (.pointer (some ⟨b, 0, none⟩)) ∧ ∃ v', WrAt w' b base v' (p ++ be x 2) ∧ WF W w' b v v' := by
  have hbe : be x 2 = [x / 256, x % 256] := by simp only [be, Int.pow_zero, Int.pow_succ, Int.ediv_one, Int.one_mul]; congr 1; omega
  rw [hbe]
  have hg := World.grownBy_alloc W (.cells #[.int .u8 (x / 256), .int .u8 (x % 256)] 5) none
  have hL := lay_any (hW.kept hg (by simp) (by cases v.ownBlock <;> simp)) (by simp; omega) (q := [x / 256, x % 256]) hl (src_new W [x / 256, x % 256] 5)
  have hw1 : IntKind.u8.wrap (x / 256) = x / 256 := by rw [IntKind.wrap_u8]; omega
  have hw2 : IntKind.u8.wrap x = x % 256 := by rw [IntKind.wrap_u8]
  go_enter Try.func43, Try.ntmps43
  go_wp2_with (go_at_call 71; refine hL.mono ?_; rintro e w1 ⟨rfl, v', h1, h2⟩)
  go_ret
  exact ⟨rfl, v', h1, h2.pre hg⟩
theorem be_8 (n : Int) : be (n / 281474976710656 % 65536) 2 ++ be (n / 4294967296 % 65536) 2 ++ be (n / 65536 % 65536) 2 ++ be (n % 65536) 2 = be n 8 := by
  simp only [be, Int.pow_zero, Int.pow_succ, Int.ediv_one, Int.one_mul, List.cons_append, List.nil_append, List.cons.injEq, and_true]
  omega
set_option maxHeartbeats 2000000 in
theorem wLong_any {W : World} {b base : Nat} {v : Value} {p : List Int} (n : Int) (hn : 0 ≤ n ∧ n < 18446744073709551616) (hW : WrAt W b base v p) (hbase : base ≤ W.heap.size) (hl : p.length + 8 ≤ 1048576) :
    Calls Try.prog 16 #[.pointer (some ⟨b, 0, none⟩), .int .u64 n] W fun e w' => e = .returned (.pointer (some ⟨b, 0, none⟩)) ∧ ∃ v', WrAt w' b base v' (p ++ be n 8) ∧ WF W w' b v v' := by
  have hb2 := be_len
  have S1 := wShort_any (n / 281474976710656 % 65536) (by omega) hW hbase (by omega)
  have hw1 : IntKind.u16.wrap (n / 281474976710656) = n / 281474976710656 % 65536 := by rw [IntKind.wrap_u16]
  have hw2 : IntKind.u16.wrap (n / 4294967296) = n / 4294967296 % 65536 := by rw [IntKind.wrap_u16]
  have hw3 : IntKind.u16.wrap (n / 65536) = n / 65536 % 65536 := by rw [IntKind.wrap_u16]
  have hw4 : IntKind.u16.wrap n = n % 65536 := by rw [IntKind.wrap_u16]
  go_enter Try.func16, Try.ntmps16
  go_wp2_with (first
    | (go_at_call 43; refine S1.mono ?_; rintro e w1 ⟨rfl, v1, W1, F1⟩; clear S1; have z1 := F1.size; have l1 : (p ++ be (n / 281474976710656 % 65536) 2).length = p.length + 2 := (by rw [List.length_append, be_len]); have S2 := wShort_any (n / 4294967296 % 65536) (by omega) W1 (by omega) (by omega))
    | (go_at_call 43; refine S2.mono ?_; rintro e w2 ⟨rfl, v2, W2, F2⟩; clear S2; have z2 := F2.size; have l2 : (p ++ be (n / 281474976710656 % 65536) 2 ++ be (n / 4294967296 % 65536) 2).length = p.length + 4 := (by rw [List.length_append, be_len, l1]); have S3 := wShort_any (n / 65536 % 65536) (by omega) W2 (by omega) (by omega))
    | (go_at_call 43; refine S3.mono ?_; rintro e w3 ⟨rfl, v3, W3, F3⟩; clear S3; have z3 := F3.size; have l3 : (p ++ be (n / 281474976710656 % 65536) 2 ++ be (n / 4294967296 % 65536) 2 ++ be (n / 65536 % 65536) 2).length = p.length + 6 := (by rw [List.length_append, be_len, l2]); have S4 := wShort_any (n % 65536) (by omega) W3 (by omega) (by omega))
    | (go_at_call 43; refine S4.mono ?_; rintro e w4 ⟨rfl, v4, W4, F4⟩; clear S4))
  go_ret
  refine ⟨rfl, v4, ?_, ((F1.trans F2).trans F3).trans F4⟩
  rw [← be_8 n]
  simpa [List.append_assoc] using W4

end Go.Proofs.Ytjhjgncnadhbhaa

/- The document's bytes of numbers and coins. -/
namespace Go.Proofs.Ytjhjgncnadhbhaa
open Go.RowKit

theorem made1 (W : World) (x : Int) {base : Nat} (hb : base ≤ W.heap.size) : (W.alloc (.cells #[.int .u8 x] 5)).ownsRow base 5 1 (.slice (some ⟨W.heap.size, 0, none⟩) 1 1) ([x] : List Int).length (encB [x]) :=
  ⟨rfl, .inr ⟨W.heap.size, 1, #[.int .u8 x], rfl, hb, World.alloc_heap_new W _, Nat.le_refl _, by unfold maxLen; omega, rfl, rfl⟩⟩

set_option maxHeartbeats 2000000 in
theorem numR4_any (x0 x1 x2 x3 : Int) (hx : Lim x0 x1 x2 x3) (W : World) :
    Calls Try.prog 73 #[.agg #[.int .u64 x0, .int .u64 x1, .int .u64 x2, .int .u64 x3]] W fun e w' => ∃ u, e = .returned u ∧ w'.ownsRow W.heap.size 5 1 u (layN (val x0 x1 x2 x3)).length (encB (layN (val x0 x1 x2 x3))) ∧ Below W.heap.size W w' := by
  obtain ⟨i0, hi, hz0, hz1, hz2⟩ := info_parts u8_info
  have hlen := byL_len (val x0 x1 x2 x3) 32
  have hB0 := bytesR_any x0 x1 x2 x3 hx
  unfold layN
  generalize byL (val x0 x1 x2 x3) 32 = q at *
  have hl1 : (q.length : Int) ≤ 32 := by omega
  have hw8 : IntKind.u8.wrap (q.length : Int) = (q.length : Int) := by rw [IntKind.wrap_u8]; omega
  go_enter Try.func73, Try.ntmps73
  go_wp2_with (first
    | (go_at_call 94; refine (hB0 _).mono ?_; rintro e w1 ⟨u, rfl, ho1, hb1⟩; have hz1' := hb1.size; simp at hz1'; have hB1 := bt (ba (Below.refl _ _) _) hb1; rcases src_own ho1 with ⟨rfl, hq0⟩ | ⟨ad, cap, rfl, hc⟩)
    | (at_builtin; refine wpList_append_own_none rfl _ _ 42 rfl W.heap.size 5 i0 1 Try.underlying42 hi _ _ _ rfl (made1 w1 0 (by omega)) rfl ?_)
    | (at_builtin; refine wpList_append_own _ rfl _ _ 42 rfl W.heap.size 5 i0 _ 1 1 Try.underlying42 hi hz0 hz1 hz2 rfl (by decide) _ _ _ rfl (made1 w1 (q.length : Int) (by omega)) ad q.length cap (encB q) rfl (by simp [encB]) (fun j x hj => by simp only [encB, List.getElem?_map] at hj; obtain ⟨y, hy, rfl⟩ := Option.map_eq_some_iff.1 hj; exact (World.grownBy_alloc w1 _ none).cell (hc j y hy) (by simp)) (by simp [encB, Value.oneCell']) (by unfold maxLen; simp; omega) (by simp; omega) (by simp; omega) ?_; intro v' w2 hown' hgrow _))
  · go_ret
    subst hq0
    exact ⟨_, rfl, made1 w1 0 (by omega), ba hB1 _⟩
  · go_ret
    refine ⟨_, rfl, ?_, (ba hB1 _).grown hgrow (by simp; omega) (fun k hk => ?_)⟩
    · have e : encB ((q.length : Int) :: q) = encB [(q.length : Int)] ++ encB q := by simp [encB]
      have e2 : 1 + q.length = q.length + 1 := by omega
      rw [e]
      have h := hown'
      simp only [List.length_cons, List.length_nil, Nat.zero_add] at h
      rw [e2] at h
      exact h
    · have := (made1 w1 (q.length : Int) (base := W.heap.size) (by omega)).lt k hk
      exact this.1

set_option maxHeartbeats 4000000 in
theorem longR_any (n : Int) (hn : 0 ≤ n ∧ n < 18446744073709551616) (size : Nat) (hs : size ≤ 8) (W : World) :
    Calls Try.prog 22 #[.int .u64 n, .int .i64 (size : Int)] W fun e w' => ∃ u, e = .returned u ∧ w'.ownsRow W.heap.size 5 1 u (be n size).length (encB (be n size)) ∧ Below W.heap.size W w' := by
  obtain ⟨i0, hi, hz0, hz1, hz2⟩ := info_parts u8_info
  have hs8 : (size : Int) ≤ 8 := by omega
  go_enter Try.func22, Try.ntmps22
  go_wp2
  go_loopw [5, 6] (fun pv i X => ∃ (k : Nat) (q : List Int), k ≤ size ∧ i = .int .i64 ((k : Int) - 1) ∧ q ++ be n k = be n size ∧ X.ownsRow W.heap.size 5 1 pv q.length (encB q) ∧ Below W.heap.size W X) (fun _ i _ => (intOf i + 1).toNat)
  case atStart => exact ⟨size, [], by omega, by go_num, rfl, World.ownsRow_nil _ _ _ _, Below.refl _ _⟩
  case round =>
    obtain ⟨k, q, hk, rfl, hq, hrow, hB⟩ := hrel
    obtain ⟨a0, c0, rfl⟩ := row_slice hrow
    have hql : q.length + k = size := by have := congrArg List.length hq; rw [List.length_append, be_len, be_len] at this; exact this
    cases k with
    | zero =>
      go_wp2
      go_ret
      simp [be] at hq
      subst hq
      exact ⟨_, rfl, hrow, hB⟩
    | succ k =>
      have e : (((k + 1 : Nat) : Int) - 1) = (k : Int) := by omega
      rw [e]
      obtain ⟨s, hs'⟩ : ∃ s : Nat, 8 * (k : Int) = (s : Int) := ⟨8 * k, by omega⟩
      have hsn : s = 8 * k := by omega
      have hs64 : s ≤ 56 := by omega
      have hk0 : (0 : Int) ≤ (k : Int) := by omega
      have hk8 : (k : Int) ≤ 7 := by omega
      have hpow : (2 : Int) ^ s = 256 ^ k := by rw [hsn, Int.pow_mul]; rfl
      obtain ⟨y, hy⟩ : ∃ y, n / 2 ^ s % 256 = y := ⟨_, rfl⟩
      have hq2 : Hid (q ++ [y] ++ be n k = be n size) := by
        unfold Hid; rw [← hq, ← hy, hpow, be]; simp
      have hsn' : Hid _ := hsn
      clear hpow e hq hsn
      have hsz := hB.size
      go_wp2_with (at_builtin; refine wpList_append_own _ rfl _ _ 42 rfl W.heap.size 5 i0 (.int .u8 0) 1 1 Try.underlying42 hi hz0 hz1 hz2 rfl (by decide) _ _ _ rfl (hrow.alloc _) ⟨wr.heap.size, 0, none⟩ 1 1 [.int .u8 y] rfl rfl (cell_one_new _ _ _) (by simp [Value.oneCell']) (by unfold maxLen; omega) (by omega) (by simp; omega) ?_; intro v' w1 hown' hgrow _)
      all_goals go_roundw
      case rel =>
        refine ⟨k, q ++ [y], by omega, by go_num, hq2.out, ?_, ?_⟩
        · rw [List.length_append, encB_snoc]; exact hown'
        · exact ((hB.alloc hsz _).grown hgrow (by simp; omega) (fun j hj => (hrow.lt j hj).1))
      case measure => (simp [intOf] <;> omega)

set_option maxRecDepth 10000 in
set_option maxHeartbeats 4000000 in
theorem coinsR4_any {u : Value} {L : List Cn} (hwf : ∀ x ∈ L, CnWf x) (hLn : L.length ≤ 255) (W : World) (hu : IsCoins W u L) :
    Calls Try.prog 47 #[u] W fun e w' => ∃ v, e = .returned v ∧ w'.ownsRow W.heap.size 5 1 v (((L.length : Int) :: layL L) : List Int).length (encB ((L.length : Int) :: layL L)) ∧ Below W.heap.size W w' := by
  obtain ⟨i0, hi, hz0, hz1, hz2⟩ := info_parts u8_info
  have hw8 : IntKind.u8.wrap (L.length : Int) = (L.length : Int) := by rw [IntKind.wrap_u8]; omega
  have hLn' : (L.length : Int) ≤ 255 := by omega
  obtain ⟨au, cu, rfl⟩ : ∃ a c, u = .slice a L.length c := by
    rcases hu with ⟨rfl, a, c, rfl⟩ | ⟨g, off, cap, rfl, -⟩
    · exact ⟨_, _, rfl⟩
    · exact ⟨_, _, rfl⟩
  go_enter Try.func47, Try.ntmps47
  go_wp2
  go_loopw [3, 4] (fun pv i X => ∃ (k : Nat), k ≤ L.length ∧ i = .int .i64 (k : Int) ∧ X.ownsRow W.heap.size 5 1 pv (((L.length : Int) :: layL (L.take k)) : List Int).length (encB ((L.length : Int) :: layL (L.take k))) ∧ Below W.heap.size W X) (fun _ i _ => L.length - (intOf i).toNat)
  case atStart => exact ⟨0, by omega, rfl, made1 W (L.length : Int) (Nat.le_refl _), by (repeat (first | (with_reducible exact Below.refl _ _) | (with_reducible assumption) | (with_reducible apply bd) | (with_reducible apply ba) | (with_reducible refine bp ?_ (by first | omega | (simp [pad_size]; done) | (simp [pad_size]; omega)) _ _) | (with_reducible refine bs ?_ (by first | omega | (simp [pad_size]; done) | (simp [pad_size]; omega)) _) | (with_reducible refine bt ?_ (by assumption))))⟩
  case round =>
    obtain ⟨k, hk, rfl, hrow, hB⟩ := hrel
    obtain ⟨a0, c0, rfl⟩ := row_slice hrow
    have hsz := hB.size
    by_cases hlt : k < L.length
    · rcases hu with ⟨e, -⟩ | ⟨g, off, cap, hv, -, -, hgl, hall⟩
      · subst e; simp at hlt
      · simp at hv
        obtain ⟨rfl, rfl⟩ := hv
        obtain ⟨k0, k1, k2, k3, k4⟩ := hall k L[k] (by simp [hlt])
        have hxw := hwf L[k] (List.getElem_mem hlt)
        have htk : Hid (layL (L.take (k + 1)) = layL (L.take k) ++ layC L[k]) := by unfold Hid; rw [List.take_succ_eq_append_getElem hlt, layL_snoc]
        have hln := layL_len (L.take k)
        have hlk : (L.take k).length ≤ 255 := by simp; omega
        generalize L[k] = x at *
        obtain ⟨xd, xa, xb, xc, xe⟩ := x
        have hlt' : (k : Int) < (L.length : Int) := by omega
        have hN := numR4_any xa xb xc xe hxw.2
        have hNl := layN_len (val xa xb xc xe)
        have r0 := (hB.cell (p := ⟨g, off + k * 5, none⟩) hgl).trans k0
        have hcell : Hid (∀ X, Below W.heap.size W X → X.cell? ⟨g, off + k * 5 + 1, none⟩ = some (.int .u64 xa) ∧ X.cell? ⟨g, off + k * 5 + 2, none⟩ = some (.int .u64 xb) ∧ X.cell? ⟨g, off + k * 5 + 3, none⟩ = some (.int .u64 xc) ∧ X.cell? ⟨g, off + k * 5 + 4, none⟩ = some (.int .u64 xe)) :=
          fun X hX => ⟨(hX.cell (p := ⟨g, _, none⟩) hgl).trans k1, (hX.cell (p := ⟨g, _, none⟩) hgl).trans k2, (hX.cell (p := ⟨g, _, none⟩) hgl).trans k3, (hX.cell (p := ⟨g, _, none⟩) hgl).trans k4⟩
        obtain ⟨Q, hQ⟩ : ∃ Q : List Int, (L.length : Int) :: layL (L.take k) = Q := ⟨_, rfl⟩
        have hQl : Q.length ≤ 1 + 34 * 255 := by rw [← hQ, List.length_cons]; omega
        rw [hQ] at hrow ⊢
        have hQ' : Hid _ := hQ
        clear hall hQ k0 k1 k2 k3 k4
        go_wp2_with (first
          | (at_builtin; refine wpList_append_own _ rfl _ _ 42 rfl W.heap.size 5 i0 (.int .u8 0) 1 1 Try.underlying42 hi hz0 hz1 hz2 rfl (by decide) _ _ _ rfl (hrow.alloc _) ⟨wr.heap.size, 0, none⟩ 1 1 [.int .u8 xd] rfl rfl (cell_one_new _ _ _) (by simp [Value.oneCell']) (by unfold maxLen; omega) (by omega) (by simp; omega) ?_; intro v1 w1 hown1 hgrow1 _; have hB1 : Below W.heap.size W w1 := ((hB.alloc hsz _).grown hgrow1 (by simp; omega) (fun j hj => (hrow.lt j hj).1)); obtain ⟨s1, s2, s3, s4⟩ := hcell.out w1 hB1; obtain ⟨a1, c1, rfl⟩ := row_slice hown1; clear hrow hgrow1)
          | (go_at_call 73; refine (hN _).mono ?_; rintro e w2 ⟨u2, rfl, ho2, hb2⟩; have hown2 := none_row hown1 (grown_none hb2); have hB2 : Below W.heap.size W w2 := hB1.trans (hb2.mono hB1.size); have hsrc := src_own ho2; have hsz2 := hB2.size; rcases hsrc with ⟨rfl, hq0⟩ | ⟨ad, cap2, rfl, hc2⟩; exact absurd hq0 (by simp [layN]))
          | (at_builtin; refine wpList_append_own _ rfl _ _ 42 rfl W.heap.size 5 i0 (.int .u8 0) 1 1 Try.underlying42 hi hz0 hz1 hz2 rfl (by decide) _ _ _ rfl hown2 ad _ cap2 (encB (layN (val xa xb xc xe))) rfl (by simp [encB]) (fun j x hj => by simp only [encB, List.getElem?_map] at hj; obtain ⟨y, hy, rfl⟩ := Option.map_eq_some_iff.1 hj; exact hc2 j y hy) (by simp [encB, Value.oneCell']) (by unfold maxLen; omega) (by omega) (by omega) ?_; intro v3 w3 hown3 hgrow3 _))
        all_goals go_roundw
        case rel =>
          refine ⟨k + 1, by omega, by go_num, ?_, hB2.grown hgrow3 (by omega) (fun j hj => (hown2.lt j hj).1)⟩
          rw [htk.out]
          have e : (L.length : Int) :: (layL (L.take k) ++ layC ⟨xd, xa, xb, xc, xe⟩) = Q ++ [xd] ++ layN (val xa xb xc xe) := by rw [← hQ'.out]; simp [layC, vl]
          rw [e, List.length_append, List.length_append, encB_app, encB_app]
          exact hown3
        case measure => (simp [intOf] <;> omega)
    · obtain rfl : k = L.length := by omega
      rw [List.take_length] at hrow ⊢
      go_wp2
      go_ret
      exact ⟨_, rfl, hrow, hB⟩
end Go.Proofs.Ytjhjgncnadhbhaa

/- jointurelaw04.of. -/
namespace Go.Proofs.Ytjhjgncnadhbhaa
open Go.RowKit

end Go.Proofs.Ytjhjgncnadhbhaa


/- jointurelaw04.lay: what holds all through it. -/
namespace Go.Proofs.Ytjhjgncnadhbhaa
open Go.RowKit

section
variable {w0 W : World} {b c : Nat} {cs : Array Value} {L : List Cn} {v u : Value} {p q : List Int} {ys : Option (Value × List Int)} {zs : List Value}
theorem new_apart {W' : World} {base e s n : Nat} {v v' u : Value} {xs : List Value} (hu : W.ownsRow base e s u n xs) (ha : u.ownBlock = none ∨ u.ownBlock ≠ v.ownBlock) (hF : WF W W' b v v') : u.ownBlock = none ∨ u.ownBlock ≠ v'.ownBlock := by
  rcases ha with ha | ha
  · exact .inl ha
  · rcases hF.own with e | ⟨g, e, hg⟩
    · rw [e]; exact .inr ha
    · rw [e]; right; intro e2; have := (hu.lt g e2).2; omega
end
end Go.Proofs.Ytjhjgncnadhbhaa

/- jointurelaw04.lay. -/
namespace Go.Proofs.Ytjhjgncnadhbhaa
open Go.RowKit

/-- A writer and a list, apart from one another; nothing that was there at first has turned. -/
structure LO (w0 W : World) (b : Nat) (v u : Value) (p q : List Int) : Prop where
  wr : WrAt W b w0.heap.size v p
  row : W.ownsRow w0.heap.size 5 1 u q.length (encB q)
  apart : u.ownBlock = none ∨ u.ownBlock ≠ v.ownBlock
  below : Below w0.heap.size w0 W
  bb : w0.heap.size ≤ b
/-- A truth as a byte. -/
def flI (x : Bool) : Int := if x then 1 else 0
section
variable {w0 W : World} {b c : Nat} {cs : Array Value} {L : List Cn} {v u : Value} {p q : List Int} {ys : Option (Value × List Int)} {zs : List Value}
end

end Go.Proofs.Ytjhjgncnadhbhaa

/- What was laid is read, and what is cut short is a fault: plain facts. -/
namespace Go.Proofs.Ytjhjgncnadhbhaa
open Go.RowKit

theorem takeS_app (a r : List Int) : takeS (some (a ++ r)) a.length = (a, some r) := by simp [takeS]
theorem takeS_short {a : List Int} {n : Nat} (h : a.length < n) : takeS (some a) n = ([], none) := by simp [takeS]; omega
theorem byteS_app (x : Int) (r : List Int) : byteS (some (x :: r)) = (x, some r) := by
  have h := takeS_app [x] r
  unfold byteS
  simp only [List.length_cons, List.length_nil, List.cons_append, List.nil_append] at h
  rw [h]; simp [rd]
theorem byteS_nil : byteS (some []) = (0, none) := by
  unfold byteS; rw [takeS_short (by simp)]; rfl
theorem nS_none : nS none = (0, none) := by decide
theorem numS_be (n : Int) (k : Nat) (r : List Int) : (numS (some (be n k ++ r)) k).2 = some r := by
  have h := takeS_app (be n k) r
  rw [be_len] at h
  unfold numS; rw [h]
theorem numS_cut {a : List Int} {k : Nat} (h : a.length < k) : (numS (some a) k).2 = none := by unfold numS; rw [takeS_short h]
theorem flagS_app (b : Bool) (r : List Int) : (flagS (some (flI b :: r))).2 = some r := by
  unfold flagS; rw [byteS_app]; cases b <;> simp [flI]
theorem flagS_nil : (flagS (some [])).2 = none := by unfold flagS; rw [byteS_nil]; simp
theorem goodB_byL (n : Int) : goodB (byL n 32) = true := by
  have h := byL_good n 32
  have hl := byL_len n 32
  unfold goodB
  simp only [Bool.and_eq_true, decide_eq_true_eq, bne_iff_ne, ne_eq]
  refine ⟨hl, fun e => ?_⟩
  have := h.2 0 (by rw [List.head?_eq_getElem?]; exact e)
  omega
theorem nS_app {n : Int} (h0 : 0 ≤ n) (h1 : n < 115792089237316195423570985008687907853269984665640564039457584007913129639936) (r : List Int) : nS (some (layN n ++ r)) = (n, some r) := by
  unfold nS layN
  rw [List.cons_append, byteS_app]
  simp only [Int.toNat_natCast]
  rw [takeS_app, if_pos (goodB_byL n), rd_byL32 h0 h1]
theorem nS_cut {n : Int} {m : Nat} (h : m < (layN n).length) : nS (some ((layN n).take m)) = (0, none) ∨ (nS (some ((layN n).take m))).2 = none := by
  right
  cases m with
  | zero => simp only [List.take_zero]; unfold nS; rw [byteS_nil]; decide
  | succ m =>
    have hl : m < (byL n 32).length := by simp [layN] at h; omega
    unfold nS layN
    rw [List.take_succ_cons, byteS_app]
    simp only [Int.toNat_natCast]
    rw [takeS_short (by simp; omega)]
    simp [goodB]
theorem nS_cut2 {n : Int} {m : Nat} (h : m < (layN n).length) : (nS (some ((layN n).take m))).2 = none := by
  rcases nS_cut h with h | h
  · rw [h]
  · exact h
theorem cnI_vl {c : Cn} (h : CnWf c) : cnI c.d (vl c) = c := by
  obtain ⟨-, h⟩ := h
  obtain ⟨d, a, b, e, f⟩ := c
  unfold Lim at h
  simp only at h
  unfold cnI vl val
  simp only [Cn.mk.injEq, true_and]
  refine ⟨by omega, by omega, by omega, by omega⟩
theorem vl_lim {c : Cn} (h : CnWf c) : 0 ≤ vl c ∧ vl c < 115792089237316195423570985008687907853269984665640564039457584007913129639936 := ⟨val_lo h.2, val_hi h.2⟩
theorem cl_app : ∀ (L l : List Cn) (r : List Int), (∀ x ∈ L, CnWf x) → cl L.length l (some (layL L ++ r)) = (l ++ L, some r)
  | [], l, r, _ => by simp [cl, layL]
  | c :: L, l, r, h => by
    have hc := h c (by simp)
    rw [List.length_cons, layL_cons, List.append_assoc, layC, List.cons_append, cl, byteS_app, nS_app (vl_lim hc).1 (vl_lim hc).2]
    simp only
    rw [cl_app L _ r (fun x hx => h x (by simp [hx])), cnI_vl hc]
    simp
theorem cl_cut : ∀ (L l : List Cn) (m : Nat), (∀ x ∈ L, CnWf x) → m < (layL L).length → (cl L.length l (some ((layL L).take m))).2 = none
  | [], l, m, _, hm => by simp [layL] at hm
  | c :: L, l, m, h, hm => by
    have hc := h c (by simp)
    rw [List.length_cons, layL_cons, layC, List.cons_append]
    cases m with
    | zero =>
      rw [List.take_zero, cl, byteS_nil]
      simp only
      rw [nS_none]
      simp only
      rw [cl_none]
    | succ m =>
      rw [List.take_succ_cons, cl, byteS_app]
      simp only
      by_cases hh : m < (layN (vl c)).length
      · rw [List.take_append_of_le_length (by omega), nS_cut2 hh, cl_none]
      · obtain ⟨k, hk⟩ : ∃ k, m = (layN (vl c)).length + k := ⟨m - (layN (vl c)).length, by omega⟩
        rw [hk, List.take_length_add_append, nS_app (vl_lim hc).1 (vl_lim hc).2]
        simp only
        refine cl_cut L _ k (fun x hx => h x (by simp [hx])) ?_
        rw [layL_cons, List.length_append, layC, List.length_cons] at hm
        omega
theorem lst_rt {z : Nat → Cn} (hz : Purse z) : ∀ k, k ≤ 8 → RightP (lst z k)
  | 0, _ => by intro i x hi; simp [lst] at hi
  | k + 1, hk => by
    have ih := lst_rt hz k (by omega)
    intro i x hi
    simp only [lst] at hi ⊢
    by_cases hlt : i < (lst z k).length
    · rw [List.getElem?_append_left hlt] at hi
      obtain ⟨h1, h2, h3⟩ := ih i x hi
      refine ⟨h1, h2, fun j y hj hy => h3 j y hj ?_⟩
      rw [List.getElem?_append_left (by omega)] at hy
      exact hy
    · rw [List.getElem?_append_right (by omega)] at hi
      have hm : x ∈ oneL (z k) := List.mem_of_getElem? hi
      have hi0 : i - (lst z k).length = 0 := by
        have h1 : (oneL (z k)).length ≤ 1 := by unfold oneL; split <;> simp
        have h2 := (List.getElem?_eq_some_iff.1 hi).1
        omega
      unfold oneL at hm
      split at hm
      · simp at hm
      · rename_i hq
        rw [List.mem_singleton] at hm
        subst hm
        refine ⟨?_, by simpa using hq, fun j y hj hy => ?_⟩
        · rw [(hz k (by omega)).2]; omega
        · rw [List.getElem?_append_left (by omega)] at hy
          obtain ⟨e, he, rfl, -⟩ := lst_mem k y (List.mem_of_getElem? hy)
          rw [(hz e (by omega)).2, (hz k (by omega)).2]; omega
theorem lst_rf {z : Nat → Cn} (hz : Purse z) : rightFrom 0 (lst z 8) = true :=
  (rightFrom_iff _ 0).2 (fun i x hi => ⟨lst_rt hz 8 (Nat.le_refl _) i x hi, (lst_below hz x (List.mem_of_getElem? hi)).1⟩)
theorem coinsS_app {L : List Cn} (h : ∀ x ∈ L, CnWf x) (hr : rightFrom 0 L = true) (r : List Int) : (coinsS (some (((L.length : Int) :: layL L) ++ r))).2 = some r := by
  unfold coinsS
  rw [List.cons_append, byteS_app]
  simp only [Int.toNat_natCast]
  rw [cl_app L [] r h]
  simp [hr]
theorem coinsS_cut {L : List Cn} (h : ∀ x ∈ L, CnWf x) {m : Nat} (hm : m < ((L.length : Int) :: layL L).length) : (coinsS (some (((L.length : Int) :: layL L).take m))).2 = none := by
  cases m with
  | zero =>
    unfold coinsS
    rw [List.take_zero, byteS_nil]
    simp [cl]
  | succ m =>
    unfold coinsS
    rw [List.take_succ_cons, byteS_app]
    simp only [Int.toNat_natCast]
    rw [cl_cut L [] m h (by simp at hm; omega)]
    simp
/-- A part: its kind, its number, its coins (as they lie, and which they are). -/
structure Pt where
  k : Int
  x0 : Int
  x1 : Int
  x2 : Int
  x3 : Int
  a : Option Addr
  n : Nat
  cap : Nat
  L : List Cn
def layP (y : Pt) : List Int :=
  if y.k % 6 = 0 then [y.x0 % 256] else if y.k % 6 = 1 then [flI (y.x0.tmod 2 == 1)] else if y.k % 6 = 2 then be (y.x0 % 65536) 2 else if y.k % 6 = 3 then be y.x0 8 else if y.k % 6 = 4 then layN (val y.x0 y.x1 y.x2 y.x3)
  else ((lst (ofP y.L) 8).length : Int) :: layL (lst (ofP y.L) 8)
def Ok (y : Pt) : Prop := (0 ≤ y.k ∧ y.k ≤ 255) ∧ Lim y.x0 y.x1 y.x2 y.x3 ∧ ∀ x ∈ y.L, CnWf x
theorem layP_read {y : Pt} (h : Ok y) (r : List Int) : rdS (some (layP y ++ r)) (coinsS (some (layP y ++ r))).2 (y.k % 6) = some r := by
  obtain ⟨hk, hx, hL⟩ := h
  have hp := purse_of y.L (fun x hx => (hL x hx).2)
  unfold rdS layP
  rcases (show y.k % 6 = 0 ∨ y.k % 6 = 1 ∨ y.k % 6 = 2 ∨ y.k % 6 = 3 ∨ y.k % 6 = 4 ∨ y.k % 6 = 5 by omega) with e | e | e | e | e | e <;> rw [e]
  · simp only [if_true, List.cons_append, List.nil_append, byteS_app]
  · simp only [if_true, List.cons_append, List.nil_append]; simp; exact flagS_app _ _
  · simp [numS_be]
  · simp [numS_be]
  · simp [nS_app (val_lo hx) (val_hi hx)]
  · simp only [show ¬ (5 : Int) = 0 by omega, show ¬ (5 : Int) = 1 by omega, show ¬ (5 : Int) = 2 by omega, show ¬ (5 : Int) = 3 by omega, show ¬ (5 : Int) = 4 by omega, if_false]
    exact coinsS_app (lst_wf hp) (lst_rf hp) r
theorem layP_cut {y : Pt} (h : Ok y) {m : Nat} (hm : m < (layP y).length) : rdS (some ((layP y).take m)) (coinsS (some ((layP y).take m))).2 (y.k % 6) = none := by
  obtain ⟨hk, hx, hL⟩ := h
  have hp := purse_of y.L (fun x hx => (hL x hx).2)
  unfold rdS layP at *
  rcases (show y.k % 6 = 0 ∨ y.k % 6 = 1 ∨ y.k % 6 = 2 ∨ y.k % 6 = 3 ∨ y.k % 6 = 4 ∨ y.k % 6 = 5 by omega) with e | e | e | e | e | e <;> rw [e] at hm ⊢
  · obtain rfl : m = 0 := by simpa using hm
    simp only [if_true, List.take_zero, byteS_nil]
  · obtain rfl : m = 0 := by simpa using hm
    simp only [List.take_zero, flagS_nil]; simp
  · simp only [show ¬ (2 : Int) = 0 by omega, show ¬ (2 : Int) = 1 by omega, if_false, if_true] at hm ⊢
    rw [be_len] at hm
    exact numS_cut (by rw [List.length_take]; omega)
  · simp only [show ¬ (3 : Int) = 0 by omega, show ¬ (3 : Int) = 1 by omega, show ¬ (3 : Int) = 2 by omega, if_false, if_true] at hm ⊢
    rw [be_len] at hm
    exact numS_cut (by rw [List.length_take]; omega)
  · simp only [show ¬ (4 : Int) = 0 by omega, show ¬ (4 : Int) = 1 by omega, show ¬ (4 : Int) = 2 by omega, show ¬ (4 : Int) = 3 by omega, if_false, if_true] at hm ⊢
    exact nS_cut2 hm
  · simp only [show ¬ (5 : Int) = 0 by omega, show ¬ (5 : Int) = 1 by omega, show ¬ (5 : Int) = 2 by omega, show ¬ (5 : Int) = 3 by omega, show ¬ (5 : Int) = 4 by omega, if_false] at hm ⊢
    exact coinsS_cut (lst_wf hp) hm
theorem layP_len (y : Pt) : (layP y).length ≤ 300 ∧ 0 < (layP y).length := by
  unfold layP
  have h1 := layN_len (val y.x0 y.x1 y.x2 y.x3)
  have h2 := layL_len (lst (ofP y.L) 8)
  have h3 := lst_len (ofP y.L) 8
  have h4 : 0 < (layN (val y.x0 y.x1 y.x2 y.x3)).length := by simp [layN]
  split
  · simp
  · split
    · simp
    · split
      · rw [be_len]; omega
      · split
        · rw [be_len]; omega
        · split
          · omega
          · rw [List.length_cons]; omega
def layA (l : List Pt) : List Int := l.flatMap layP
theorem layA_cons (y : Pt) (l : List Pt) : layA (y :: l) = layP y ++ layA l := rfl
theorem layA_len (l : List Pt) : (layA l).length ≤ 300 * l.length := by
  induction l with
  | nil => simp [layA]
  | cons y l ih => have := layP_len y; rw [layA_cons, List.length_append, List.length_cons]; omega
theorem layA_pos {l : List Pt} (h : l ≠ []) : 0 < (layA l).length := by
  match l, h with
  | y :: l, _ => have := layP_len y; rw [layA_cons, List.length_append]; omega
/-- What is left of bytes that were cut short, behind some parts: a fault, or some that aren't all. -/
def Cutd (s : Option (List Int)) (l : List Pt) : Prop := s = none ∨ ∃ m, m < (layA l).length ∧ s = some ((layA l).take m)
theorem cut_step {s : Option (List Int)} {y : Pt} {l : List Pt} (hy : Ok y) (h : Cutd s (y :: l)) : Cutd (rdS s (coinsS s).2 (y.k % 6)) l := by
  rcases h with rfl | ⟨m, hm, rfl⟩
  · left
    have e : (coinsS none).2 = none := by decide
    rw [e]; exact rdS_none _
  · rw [layA_cons] at hm ⊢
    by_cases hh : m < (layP y).length
    · left
      rw [List.take_append_of_le_length (by omega)]
      exact layP_cut hy hh
    · right
      obtain ⟨k, hk⟩ : ∃ k, m = (layP y).length + k := ⟨m - (layP y).length, by omega⟩
      refine ⟨k, by rw [List.length_append] at hm; omega, ?_⟩
      rw [hk, List.take_length_add_append]
      exact layP_read hy _
end Go.Proofs.Ytjhjgncnadhbhaa

/- jointurelaw04's parts as they come in; few; lay of any part. -/
namespace Go.Proofs.Ytjhjgncnadhbhaa
open Go.ChangeShapes Go.WideShapes Go.ChangeAt Go.RowKit

section
variable {H : Type} {enc : TypeId × Value → H} {w : World} {base : Nat} {spare : Nat → Bool} {held : Bool} {fuel : Nat} {cs : List Value} {x : DataW H × List MemPlace}
theorem Try.cellsCoins : Try.prog.cellsOf 24 = 1 := by kernel_rfl
def ptV (y : Pt) : List Value := [.int .u8 y.k, .int .u64 y.x0, .int .u64 y.x1, .int .u64 y.x2, .int .u64 y.x3, .slice y.a y.n y.cap]
/-- A part that came in. -/
def PtIn (w : World) (y : Pt) : Prop := (0 ≤ y.k ∧ y.k ≤ 255) ∧ Lim y.x0 y.x1 y.x2 y.x3 ∧ y.n ≤ 9223372036854775807 ∧ (y.n ≤ 1048576 → IsCoins w (.slice y.a y.n y.cap) y.L ∧ ∀ x ∈ y.L, CnWf x)
/-- A list of parts that came in. -/
structure PartsIn (w : World) (a : Option Addr) (len : Nat) (l : List Pt) : Prop where
  num : l.length = len
  ok : ∀ y ∈ l, PtIn w y
  cell : len = 0 ∨ ∃ blk off, a = some ⟨blk, off, none⟩ ∧ blk < w.heap.size ∧ ∀ i y, l[i]? = some y → ∀ j v, (ptV y)[j]? = some v → w.cell? ⟨blk, off + i * 6 + j, none⟩ = some v
end

def fewB (l : List Pt) : Bool := decide (l.length ≤ 30) && l.all (fun y => decide (y.n ≤ 20))
theorem be_rng (n : Int) : ∀ k, ∀ x ∈ be n k, 0 ≤ x ∧ x ≤ 255
  | 0, x, h => by simp [be] at h
  | k + 1, x, h => by
    rw [be] at h
    rcases List.mem_cons.1 h with rfl | h
    · omega
    · exact be_rng n k x h
theorem layN_rng (n : Int) : ∀ x ∈ layN n, 0 ≤ x ∧ x ≤ 255 := by
  intro x h
  have hl := byL_len n 32
  unfold layN at h
  rcases List.mem_cons.1 h with rfl | h
  · omega
  · exact (byL_good n 32).1 x h
theorem layL_rng : ∀ L : List Cn, (∀ c ∈ L, CnWf c) → ∀ x ∈ layL L, 0 ≤ x ∧ x ≤ 255
  | [], _, x, h => by simp [layL] at h
  | c :: L, hw, x, h => by
    rw [layL_cons, layC] at h
    rcases List.mem_append.1 h with h | h
    · rcases List.mem_cons.1 h with rfl | h
      · exact (hw c (by simp)).1
      · exact layN_rng _ x h
    · exact layL_rng L (fun c hc => hw c (by simp [hc])) x h
theorem layP_rng {y : Pt} (h : Ok y) : ∀ x ∈ layP y, 0 ≤ x ∧ x ≤ 255 := by
  obtain ⟨hk, hx, hL⟩ := h
  have hp := purse_of y.L (fun x hx => (hL x hx).2)
  have h3 := lst_len (ofP y.L) 8
  unfold layP
  intro x h
  split at h
  · simp at h; omega
  · split at h
    · simp at h; subst h; unfold flI; split <;> omega
    · split at h
      · exact be_rng _ _ x h
      · split at h
        · exact be_rng _ _ x h
        · split at h
          · exact layN_rng _ x h
          · rcases List.mem_cons.1 h with rfl | h
            · omega
            · exact layL_rng _ (lst_wf hp) x h
theorem layA_rng {l : List Pt} (h : ∀ y ∈ l, Ok y) : ∀ x ∈ layA l, 0 ≤ x ∧ x ≤ 255 := by
  intro x hx
  obtain ⟨y, hy, hx⟩ := List.mem_flatMap.1 hx
  exact layP_rng (h y hy) x hx
theorem PtIn.ok {w : World} {y : Pt} (h : PtIn w y) (hn : y.n ≤ 20) : Ok y := ⟨h.1, h.2.1, (h.2.2.2 (by omega)).2⟩
theorem layA_snoc (l : List Pt) (y : Pt) : layA (l ++ [y]) = layA l ++ layP y := by simp [layA]
theorem fewB_t {l : List Pt} (h : fewB l = true) : l.length ≤ 30 ∧ ∀ y ∈ l, y.n ≤ 20 := by
  simp only [fewB, Bool.and_eq_true, decide_eq_true_eq, List.all_eq_true] at h; exact h
end Go.Proofs.Ytjhjgncnadhbhaa

/- Writer.Coins of any coins that are not the writer's. -/
namespace Go.Proofs.Ytjhjgncnadhbhaa
open Go.RowKit

set_option maxRecDepth 10000 in
set_option maxHeartbeats 4000000 in
theorem wCoinsI_any {W : World} {b base : Nat} {v u : Value} {p : List Int} {L : List Cn} (hW : WrAt W b base v p) (hbase : base ≤ W.heap.size) (hwf : ∀ x ∈ L, CnWf x) (hLn : L.length ≤ 255) (hl : p.length + 9000 ≤ 1048576) (hu : IsCoins W u L) (hub : L ≠ [] → u.ownBlock ≠ some b) (huv : L ≠ [] → u.ownBlock = none ∨ u.ownBlock ≠ v.ownBlock) :
    Calls Try.prog 45 #[.pointer (some ⟨b, 0, none⟩), u] W fun e w' => e = .returned (.pointer (some ⟨b, 0, none⟩)) ∧ ∃ v', WrAt w' b base v' (p ++ ((L.length : Int) :: layL L)) ∧ WF W w' b v v' := by
  have hbl := hW.lt
  have hw8 : IntKind.u8.wrap (L.length : Int) = (L.length : Int) := by rw [IntKind.wrap_u8]; omega
  obtain ⟨au, cu, rfl⟩ : ∃ a c, u = .slice a L.length c := by
    rcases hu with ⟨rfl, a, cap, rfl⟩ | ⟨blk, off, cap, hv, -⟩
    · exact ⟨a, cap, rfl⟩
    · exact ⟨_, _, hv⟩
  have hLn' : (L.length : Int) ≤ 255 := by omega
  go_enter Try.func45, Try.ntmps45
  go_wp2_with (go_at_call 44; refine (wByte_any (L.length : Int) hW hbase (by omega)).mono ?_; rintro e w1 ⟨rfl, v1, hW1, hF1⟩)
  go_loopw [14] (fun i X => ∃ (k : Nat) (vk : Value), k ≤ L.length ∧ i = .int .i64 (k : Int) ∧ WrAt X b base vk (p ++ ((L.length : Int) :: layL (L.take k))) ∧ WF W X b v vk) (fun i _ => L.length - (intOf i).toNat)
  case atStart => exact ⟨0, v1, by omega, rfl, hW1, hF1⟩
  case round =>
    clear hW1 hF1
    obtain ⟨k, vk, hk, rfl, hWk, hFk⟩ := hrel
    by_cases hlt : k < L.length
    · have hsz := hFk.size
      rcases hu with ⟨e, -⟩ | ⟨g, off, cap, hv, -, -, hgl, hall0⟩
      · subst e; simp at hlt
      · simp at hv
        obtain ⟨rfl, rfl⟩ := hv
        have hLne : L ≠ [] := fun e => by subst e; simp at hlt
        have hgb : wr.heap[g]? = W.heap[g]? := hFk.block g hgl (fun e => hub hLne (by rw [e]; rfl)) (fun e => by
          rcases huv hLne with h | h
          · cases h
          · exact h e)
        have hall : ∀ i x, L[i]? = some x → CnAt wr g (off + i * 5) x := fun i x hi => by
          obtain ⟨h0, h1, h2, h3, h4⟩ := hall0 i x hi
          exact ⟨(World.cell?_of_block (a := ⟨g, _, none⟩) hgb).trans h0, (World.cell?_of_block (a := ⟨g, _, none⟩) hgb).trans h1, (World.cell?_of_block (a := ⟨g, _, none⟩) hgb).trans h2, (World.cell?_of_block (a := ⟨g, _, none⟩) hgb).trans h3, (World.cell?_of_block (a := ⟨g, _, none⟩) hgb).trans h4⟩
        have hgw : g < wr.heap.size := by omega
        obtain ⟨k0, k1, k2, k3, k4⟩ := hall k L[k] (by simp [hlt])
        have hxw := hwf L[k] (List.getElem_mem hlt)
        have htk : layL (L.take (k + 1)) = layL (L.take k) ++ layC L[k] := by rw [List.take_succ_eq_append_getElem hlt, layL_snoc]
        have hln := layL_len (L.take k)
        have hlk : (L.take k).length ≤ 255 := by simp; omega
        generalize hxx : L[k] = x at *
        obtain ⟨xd, xa, xb, xc, xe⟩ := x
        have hlt' : (k : Int) < (L.length : Int) := by omega
        have hgA : wr.grownBy (wr.alloc (.cells #[.int .u8 xd, .int .u64 xa, .int .u64 xb, .int .u64 xc, .int .u64 xe] 66)).drew none := grown_dr (World.grownBy_alloc wr _ none)
        have hWa := hWk.kept hgA (by simp) (by cases vk.ownBlock <;> simp)
        have hbk := hWk.lt
        have hne : some wr.heap.size ≠ vk.ownBlock := fun e => by have := (hWk.2.lt _ e.symm).2; omega
        have htk' : Hid _ := htk
        clear hall hall0 hwf htk hxx hgb
        have hlp : (p ++ ((L.length : Int) :: layL (L.take k))).length ≤ p.length + 1 + 34 * 255 := by rw [List.length_append, List.length_cons]; omega
        go_wp2
        go_region_held2 (fun Y => Y.cell? ⟨wr.heap.size, 0, none⟩ = some (.int .u8 xd) ∧ Y.cell? ⟨wr.heap.size, 1, none⟩ = some (.int .u64 xa) ∧ Y.cell? ⟨wr.heap.size, 2, none⟩ = some (.int .u64 xb) ∧ Y.cell? ⟨wr.heap.size, 3, none⟩ = some (.int .u64 xc) ∧ Y.cell? ⟨wr.heap.size, 4, none⟩ = some (.int .u64 xe)) (go_simp) (first
          | (go_at_call 44; refine (wByte_any xd hWa (Nat.le_trans (show base ≤ wr.heap.size by omega) hgA.size) (by omega)).mono ?_; rintro e w2 ⟨rfl, v2, hW2, hF2⟩; have q2 := (hF2.block wr.heap.size (by show wr.heap.size < (wr.alloc _).heap.size; simp) (by omega) hne).trans (show (wr.alloc _).heap[wr.heap.size]? = _ from al_at rfl); obtain ⟨c2, f2⟩ := cells_of_block q2)
          | (go_at_call 72; refine (wNum_any xa xb xc xe hxw.2 hW2 (Nat.le_trans (show base ≤ wr.heap.size by omega) (Nat.le_trans hgA.size hF2.size)) (by rw [List.length_append]; simp only [List.length_cons, List.length_nil]; omega)).mono ?_; rintro e w3 ⟨rfl, v3, hW3, hF3⟩; obtain ⟨c3, f3⟩ := cells_of_block ((hF3.block wr.heap.size (Array.getElem?_eq_some_iff.1 q2).1 (by omega) (hF2.own_ne (by show wr.heap.size < (wr.alloc _).heap.size; simp) hne)).trans q2)))
        all_goals go_wp2
        all_goals go_roundw
        case rel =>
          refine ⟨k + 1, v3, by omega, by go_num, ?_, hFk.trans (WF.pre hgA (hF2.trans hF3))⟩
          rw [htk'.out]
          have e : p ++ ((L.length : Int) :: layL (L.take k)) ++ [xd] ++ (((byL (val xa xb xc xe) 32).length : Int) :: byL (val xa xb xc xe) 32) = p ++ ((L.length : Int) :: (layL (L.take k) ++ layC ⟨xd, xa, xb, xc, xe⟩)) := by
            simp [layC, layN, vl]
          rw [e] at hW3
          exact hW3
        case measure => (simp [intOf]; omega)
    · obtain rfl : k = L.length := by omega
      rw [List.take_length] at hWk
      go_wp2
      go_ret
      exact ⟨rfl, vk, hWk, hFk⟩
end Go.Proofs.Ytjhjgncnadhbhaa

/- plan.Lay of a plan without periods. -/
namespace Go.Proofs.Ytjhjgncnadhbhaa
open Go.RowKit

/-- Coins that are not the writer's are what they were behind a writer's step, and still not its own. -/
theorem coins_wf {W X : World} {b : Nat} {v v' u : Value} {L : List Cn} (hI : IsCoins W u L) (hlt : ∀ g, u.ownBlock = some g → g < W.heap.size) (hub : u.ownBlock ≠ some b) (huv : u.ownBlock = none ∨ u.ownBlock ≠ v.ownBlock) (hF : WF W X b v v') : IsCoins X u L ∧ (u.ownBlock = none ∨ u.ownBlock ≠ v'.ownBlock) := by
  have hne : ∀ g, u.ownBlock = some g → some g ≠ v.ownBlock := fun g hg e => by
    rcases huv with h | h
    · rw [h] at hg; cases hg
    · exact h (hg.trans e)
  constructor
  · rcases hI with h | ⟨blk, off, cap, hv, h1, h2, hbl, hall⟩
    · exact .inl h
    · have hg : u.ownBlock = some blk := by rw [hv]; rfl
      have hgb : X.heap[blk]? = W.heap[blk]? := hF.block blk hbl (fun e => hub (by rw [hg, e])) (hne blk hg)
      refine .inr ⟨blk, off, cap, hv, h1, h2, Nat.lt_of_lt_of_le hbl hF.size, fun i x hi => ?_⟩
      obtain ⟨h0, h1, h2, h3, h4⟩ := hall i x hi
      exact ⟨(World.cell?_of_block (a := ⟨blk, _, none⟩) hgb).trans h0, (World.cell?_of_block (a := ⟨blk, _, none⟩) hgb).trans h1, (World.cell?_of_block (a := ⟨blk, _, none⟩) hgb).trans h2, (World.cell?_of_block (a := ⟨blk, _, none⟩) hgb).trans h3, (World.cell?_of_block (a := ⟨blk, _, none⟩) hgb).trans h4⟩
  · cases hu : u.ownBlock with
    | none => exact .inl rfl
    | some g =>
      right
      exact hF.own_ne (hlt g hu) (hne g hu)
theorem WF.grow0 {W : World} {b : Nat} {v : Value} (o : Obj) : W.grownBy (W.alloc o).drew none := grown_dr (World.grownBy_alloc W o none)
set_option maxRecDepth 20000 in
set_option maxHeartbeats 8000000 in
theorem planLay_0 {W : World} {b base : Nat} {v : Value} {p : List Int} {k s t : Int} {a1 a2 : Option Addr} {c1 c2 : Nat} {al : List Cn} (hW : WrAt W b base v p) (hbase : base ≤ W.heap.size) (hl : p.length + 20000 ≤ 1048576) (hk : 0 ≤ k ∧ k ≤ 255) (hs : 0 ≤ s ∧ s < 18446744073709551616) (ht : 0 ≤ t ∧ t < 18446744073709551616) (hwf : ∀ x ∈ al, CnWf x) (hLn : al.length ≤ 255)
    (hI : IsCoins W (.slice a1 al.length c1) al) (hlt : ∀ g, (Value.slice a1 al.length c1).ownBlock = some g → g < W.heap.size) (hub : (Value.slice a1 al.length c1).ownBlock ≠ some b) (huv : (Value.slice a1 al.length c1).ownBlock = none ∨ (Value.slice a1 al.length c1).ownBlock ≠ v.ownBlock) :
    Calls Try.prog 17 #[.pointer (some ⟨b, 0, none⟩), .agg #[.int .u8 k, .int .u64 s, .int .u64 t, .slice a1 al.length c1, .slice a2 0 c2]] W fun e w' => e = .returned (.tuple #[]) ∧ ∃ v', WrAt w' b base v' (p ++ [k] ++ be s 8 ++ be t 8 ++ ((al.length : Int) :: layL al) ++ [0]) ∧ WF W w' b v v' := by
  have hgA : W.grownBy (W.alloc (.cells #[.int .u8 k, .int .u64 s, .int .u64 t, .slice a1 al.length c1, .slice a2 0 c2] 33)).drew none := grown_dr (World.grownBy_alloc W _ none)
  have hWa := hW.kept hgA (by simp) (by cases v.ownBlock <;> simp)
  have hbk := hW.lt
  have hne : some W.heap.size ≠ v.ownBlock := fun e => by have := (hW.2.lt _ e.symm).2; omega
  have hnb : W.heap.size ≠ b := by omega
  have hIa := hI.below (ba (Below.refl _ _) (.cells #[.int .u8 k, .int .u64 s, .int .u64 t, .slice a1 al.length c1, .slice a2 0 c2] 33))
  have hA0 : (W.alloc (.cells #[.int .u8 k, .int .u64 s, .int .u64 t, .slice a1 al.length c1, .slice a2 0 c2] 33)).drew.heap[W.heap.size]? = some (.cells #[.int .u8 k, .int .u64 s, .int .u64 t, .slice a1 al.length c1, .slice a2 0 c2] 33 (0, 0)) := al_at rfl
  have hAs : (W.alloc (.cells #[.int .u8 k, .int .u64 s, .int .u64 t, .slice a1 al.length c1, .slice a2 0 c2] 33)).drew.heap.size = W.heap.size + 1 := by show (W.alloc _).heap.size = _; simp
  have hll := layL_len al
  go_enter Try.func17, Try.ntmps17
  go_upto_region 1 with fail
  go_region_held2 (fun Y => Y.cell? ⟨W.heap.size, 0, none⟩ = some (.int .u8 k) ∧ Y.cell? ⟨W.heap.size, 1, none⟩ = some (.int .u64 s) ∧ Y.cell? ⟨W.heap.size, 2, none⟩ = some (.int .u64 t) ∧ Y.cell? ⟨W.heap.size, 3, none⟩ = some (.slice a1 al.length c1) ∧ Y.cell? ⟨W.heap.size, 4, none⟩ = some (.slice a2 0 c2)) (go_simp) (first
    | (go_at_call 44; with_reducible refine (wByte_any k hWa (Nat.le_trans hbase hgA.size) (by omega)).mono ?_; rintro e w1 ⟨rfl, v1, hW1, hF1⟩; have n1 := hF1.own_ne (n := W.heap.size) (by omega) hne; have q1 := (hF1.block W.heap.size (by omega) hnb hne).trans hA0; obtain ⟨e1, f1⟩ := cells_of_block q1; have z1 := hF1.size)
    | (go_at_call 16; with_reducible refine (wLong_any s hs hW1 (by omega) (by simp; omega)).mono ?_; rintro e w2 ⟨rfl, v2, hW2, hF2⟩; have n2 := hF2.own_ne (n := W.heap.size) (by omega) n1; have q2 := (hF2.block W.heap.size (by omega) hnb n1).trans q1; obtain ⟨e2, f2⟩ := cells_of_block q2; have z2 := hF2.size)
    | (go_at_call 16; with_reducible refine (wLong_any t ht hW2 (by omega) (by simp [be_len]; omega)).mono ?_; rintro e w3 ⟨rfl, v3, hW3, hF3⟩; have n3 := hF3.own_ne (n := W.heap.size) (by omega) n2; have q3 := (hF3.block W.heap.size (by omega) hnb n2).trans q2; obtain ⟨e3, f3⟩ := cells_of_block q3; have z3 := hF3.size)
    | (go_at_call 45; have hh := coins_wf hI hlt hub huv (WF.pre hgA (hF1.trans (hF2.trans hF3))); with_reducible refine (wCoinsI_any hW3 (by omega) hwf hLn (by simp [be_len]; omega) hh.1 (fun _ => hub) (fun _ => hh.2)).mono ?_; rintro e w4 ⟨rfl, v4, hW4, hF4⟩; have n4 := hF4.own_ne (n := W.heap.size) (by omega) n3; have q4 := (hF4.block W.heap.size (by omega) hnb n3).trans q3; obtain ⟨e4, f4⟩ := cells_of_block q4; have z4 := hF4.size)
    | (go_at_call 44; refine (wByte_any 0 hW4 (by omega) (by simp [be_len]; omega)).mono ?_; rintro e w5 ⟨rfl, v5, hW5, hF5⟩; have q5 := (hF5.block W.heap.size (by omega) hnb n4).trans q4; obtain ⟨e5, f5⟩ := cells_of_block q5))
  go_wp2
  apply wp_loop_rounds 1
  simp only [Code.rounds]
  go_wp2
  exact bodyPost_end (v := .tuple #[]) (by simp [results, Try.results17]) rfl ⟨rfl, v5, hW5, WF.pre hgA (hF1.trans (hF2.trans (hF3.trans (hF4.trans hF5))))⟩
end Go.Proofs.Ytjhjgncnadhbhaa

/- plan: what periods have together, how many are over, may a plan be: plain facts. -/
namespace Go.Proofs.Ytjhjgncnadhbhaa
open Go.RowKit

/-- A list as so much of each denomination. -/
def amP (l : List Cn) : Nat → Cn := fun d => amt l d
theorem amP_lst {l : List Cn} (h : rightFrom 0 l = true) : lst (amP l) 8 = l := right_lst h
theorem amP_purse {l : List Cn} (h : ∀ x ∈ l, CnWf x) : Purse (amP l) := purse_amt h
/-- What periods have together of a denomination. -/
def tot : List Pd → Nat → Int
  | [], _ => 0
  | q :: l, d => vl (amP q.l d) + tot l d
def sumP (l : List Pd) : Nat → Cn := fun d => cnOf d (tot l d)
structure PdWf (x : Pd) : Prop where
  n : 0 ≤ x.n ∧ x.n < 18446744073709551616
  l : ∀ y ∈ x.l, CnWf y
theorem tot_app : ∀ (l m : List Pd) (d : Nat), tot (l ++ m) d = tot l d + tot m d
  | [], m, d => by simp [tot]
  | q :: l, m, d => by simp only [List.cons_append, tot]; rw [tot_app l m d]; omega
theorem tot_snoc (l : List Pd) (q : Pd) (d : Nat) : tot (l ++ [q]) d = tot l d + vl (amP q.l d) := by rw [tot_app]; simp [tot]
theorem tot_lo : ∀ {l : List Pd} (_ : ∀ q ∈ l, PdWf q) {d : Nat} (_ : d < 8), 0 ≤ tot l d
  | [], _, _, _ => by simp [tot]
  | q :: l, h, d, hd => by
    have h1 := tot_lo (l := l) (fun x hx => h x (by simp [hx])) hd
    have h2 := vl_lo (amP_purse (h q (by simp)).l) hd
    simp only [tot]; omega
theorem tot_take {l : List Pd} (h : ∀ q ∈ l, PdWf q) (i : Nat) {d : Nat} (hd : d < 8) : 0 ≤ tot (l.take i) d ∧ tot (l.take i) d ≤ tot l d := by
  have h1 : tot l d = tot (l.take i) d + tot (l.drop i) d := by rw [← tot_app, List.take_append_drop]
  have h2 := tot_lo (l := l.take i) (fun q hq => h q (List.mem_of_mem_take hq)) hd
  have h3 := tot_lo (l := l.drop i) (fun q hq => h q (List.mem_of_mem_drop hq)) hd
  omega
theorem sumP_purse {l : List Pd} (h : ∀ q ∈ l, PdWf q) (hf : ∀ d, d < 8 → tot l d < 115792089237316195423570985008687907853269984665640564039457584007913129639936) : Purse (sumP l) := fun d hd => ⟨cnOf_lim (tot_lo h hd) (hf d hd), rfl⟩
theorem sumP_vl (l : List Pd) (d : Nat) : vl (sumP l d) = tot l d := cnOf_vl
theorem sumP_nil : lst (sumP []) 8 = [] := by
  rw [lst_congr (y := zeroP) 8 (fun d _ => ?_), lst_zero]
  simp [sumP, tot, cnOf, zeroP]
theorem sumP_snoc (l : List Pd) (q : Pd) : opP (· + ·) (sumP l) (amP q.l) = sumP (l ++ [q]) := by
  funext d
  simp only [opP, sumP_vl]
  unfold sumP
  rw [tot_snoc]
/-- How long periods are together. -/
def lenS : List Pd → Int
  | [] => 0
  | q :: l => q.n + lenS l
theorem lenS_app : ∀ (l m : List Pd), lenS (l ++ m) = lenS l + lenS m
  | [], m => by simp [lenS]
  | q :: l, m => by simp only [List.cons_append, lenS]; rw [lenS_app l m]; omega
theorem lenS_snoc (l : List Pd) (q : Pd) : lenS (l ++ [q]) = lenS l + q.n := by rw [lenS_app]; simp [lenS]
theorem lenS_lo : ∀ {l : List Pd} (_ : ∀ q ∈ l, PdWf q), 0 ≤ lenS l
  | [], _ => by simp [lenS]
  | q :: l, h => by
    have h1 := lenS_lo (l := l) (fun x hx => h x (by simp [hx]))
    have h2 := (h q (by simp)).n
    simp only [lenS]; omega
theorem lenS_take {l : List Pd} (h : ∀ q ∈ l, PdWf q) (i : Nat) : 0 ≤ lenS (l.take i) ∧ lenS (l.take i) ≤ lenS l := by
  have h1 : lenS l = lenS (l.take i) + lenS (l.drop i) := by rw [← lenS_app, List.take_append_drop]
  have h2 := lenS_lo (l := l.take i) (fun q hq => h q (List.mem_of_mem_take hq))
  have h3 := lenS_lo (l := l.drop i) (fun q hq => h q (List.mem_of_mem_drop hq))
  omega
/-- How many periods from e on are over at t, and when the last one was. -/
def ovN : List Pd → Int → Int → Nat × Int
  | [], e, _ => (0, e)
  | q :: l, e, t => if t < e ∨ t - e < q.n then (0, e) else ((ovN l (e + q.n) t).1 + 1, (ovN l (e + q.n) t).2)
theorem ovN_le : ∀ (l : List Pd) (e t : Int), (ovN l e t).1 ≤ l.length
  | [], _, _ => by simp [ovN]
  | q :: l, e, t => by
    unfold ovN
    split
    · simp
    · have := ovN_le l (e + q.n) t; simp only [List.length_cons]; omega
theorem ovN_end : ∀ (l : List Pd) (e t : Int), (ovN l e t).2 = e + lenS (l.take (ovN l e t).1)
  | [], _, _ => by simp [ovN, lenS]
  | q :: l, e, t => by
    unfold ovN
    split
    · simp [lenS]
    · have := ovN_end l (e + q.n) t
      simp only [List.take_succ_cons, lenS]; omega
theorem ovN_t : ∀ (l : List Pd) (e t : Int), e ≤ t → (ovN l e t).2 ≤ t
  | [], _, _, h => by simpa [ovN] using h
  | q :: l, e, t, h => by
    unfold ovN
    split
    · exact h
    · exact ovN_t l _ t (by omega)
theorem ovN_all : ∀ {l : List Pd} {e t : Int}, (∀ q ∈ l, PdWf q) → e + lenS l ≤ t → (ovN l e t).1 = l.length
  | [], _, _, _, _ => by simp [ovN]
  | q :: l, e, t, h, ht => by
    have hl := lenS_lo (l := l) (fun x hx => h x (by simp [hx]))
    have hq := (h q (by simp)).n
    simp only [lenS] at ht
    unfold ovN
    rw [if_neg (by omega)]
    simp only [List.length_cons]
    rw [ovN_all (fun x hx => h x (by simp [hx])) (by omega)]
theorem ovN_full {l : List Pd} {e t : Int} (h : ∀ q ∈ l, PdWf q) : (decide ((ovN l e t).1 = l.length) && decide ((ovN l e t).2 = t)) = decide (e + lenS l = t) := by
  by_cases ht : e + lenS l = t
  · have h1 := ovN_all h (show e + lenS l ≤ t by omega)
    have h2 := ovN_end l e t
    rw [h1, List.take_length] at h2
    rw [decide_eq_true h1, decide_eq_true (by omega : (ovN l e t).2 = t), decide_eq_true ht]; rfl
  · rw [decide_eq_false ht]
    by_cases h1 : (ovN l e t).1 = l.length
    · have h2 := ovN_end l e t
      rw [h1, List.take_length] at h2
      rw [decide_eq_false (by omega : ¬ (ovN l e t).2 = t), Bool.and_false]
    · rw [decide_eq_false h1, Bool.false_and]
/-- Are a period's length and coins such as may be? -/
def pdR (q : Pd) : Bool := decide (1 ≤ q.n) && someB q.l
/-- Are the first eight numbers the same? -/
def all8 (f g : Nat → Int) : Bool := (List.range 8).all fun d => decide (f d = g d)
theorem all8_true {f g : Nat → Int} : all8 f g = true ↔ ∀ d, d < 8 → f d = g d := by simp [all8]
/-- The periods' part of whether a plan may be. -/
def stepsB (x : Pn) : Bool := decide (1 ≤ x.pl.length) && decide (x.pl.length ≤ 16) && x.pl.all pdR && decide (x.s + lenS x.pl = x.e) && all8 (tot x.pl) (fun d => vl (amP x.al d))
/-- May a plan be? -/
def rightB (x : Pn) : Bool := if x.k = 3 ∨ x.k = 5 then givesB x && stepsB x else rightN x
structure PnOk (x : Pn) : Prop where
  w : PnWf x
  p : ∀ q ∈ x.pl, PdWf q
theorem some_right {l : List Cn} (h : someB l = true) : rightFrom 0 l = true := by
  unfold someB at h; exact (Bool.and_eq_true_iff.1 h).2
theorem some_len {l : List Cn} (h : someB l = true) : l.length ≤ 8 := by
  rw [← amP_lst (some_right h)]; exact lst_len _ 8
theorem IsCL.coins {W : World} {v : Value} {l : List Cn} (h : IsCL W v l) (hl : l.length ≤ 1048576) : IsCoins W v l := by
  rcases h with h | ⟨blk, off, cap, hv, hne, -, r⟩
  · exact .inl h
  · exact .inr ⟨blk, off, cap, hv, hne, hl, r⟩
theorem IsCL.lst {W : World} {v : Value} {l : List Cn} (h : IsCL W v l) (hs : rightFrom 0 l = true) : IsCoins W v (lst (amP l) 8) := by
  have hl := amP_lst hs
  rw [hl]
  exact h.coins (by rw [← hl]; have := lst_len (amP l) 8; omega)
theorem allB_eq {z y : Nat → Cn} (hz : Purse z) (hy : Purse y) : allB eqB (lst z 8) (lst y 8) 8 = all8 (fun d => vl (z d)) (fun d => vl (y d)) := by
  by_cases h : ∀ d, d < 8 → vl (z d) = vl (y d)
  · rw [all8_true.2 h]
    exact allB_full hz hy (fun d hd => decide_eq_true (h d hd)) 8 (Nat.le_refl _)
  · rw [Bool.eq_false_iff.2 fun e => h (all8_true.1 e)]
    have h' : ∃ d, d < 8 ∧ vl (z d) ≠ vl (y d) := Classical.byContradiction fun hc => h fun d hd => Classical.byContradiction fun e => hc ⟨d, hd, e⟩
    obtain ⟨d, hd, e⟩ := h'
    exact allB_not hz hy ⟨d, hd, decide_eq_false e⟩
end Go.Proofs.Ytjhjgncnadhbhaa

/- A plan as it comes in: its kind, times, coins and periods. -/
namespace Go.Proofs.Ytjhjgncnadhbhaa
open Go.ChangeShapes Go.WideShapes Go.ChangeAt Go.RowKit

def cnV (y : Cn) : List Value := [.int .u8 y.d, .int .u64 y.a, .int .u64 y.b, .int .u64 y.c, .int .u64 y.e]
/-- A period that came in: how long, where its coins are, what they are. -/
structure Pa where
  n : Int
  a : Option Addr
  m : Nat
  cap : Nat
  l : List Cn
def paV (y : Pa) : List Value := [.int .u64 y.n, .slice y.a y.m y.cap]
def Pa.pd (y : Pa) : Pd := ⟨y.n, .slice y.a y.m y.cap, y.l⟩
structure PaIn (w : World) (y : Pa) : Prop where
  n : 0 ≤ y.n ∧ y.n < 18446744073709551616
  len : y.l.length = y.m
  cl : IsCL w (.slice y.a y.m y.cap) y.l
  wf : ∀ x ∈ y.l, CnWf x
/-- A plan that came in. -/
structure PlanIn (w : World) (y : Pn) : Prop where
  wf : PnWf y
  cl : IsCL w y.av y.al
  pv : ∃ a n c, y.pv = .slice a n c ∧ n ≤ 9223372036854775807 ∧ (n ≤ 9223372036854775807 → IsPds w y.pv y.pl ∧ y.pl.length = n ∧ ∀ q ∈ y.pl, PdWf q)
theorem PlanIn.at {w : World} {y : Pn} (h : PlanIn w y) {a : Option Addr} {n c : Nat} (hv : y.pv = .slice a n c) (hn : n ≤ 9223372036854775807) : PnAt w y ∧ PnOk y ∧ y.pl.length = n := by
  obtain ⟨a', n', c', e, -, h2⟩ := h.pv
  rw [hv] at e
  injection e with e1 e2 e3
  subst e2
  obtain ⟨h3, h4, h5⟩ := h2 hn
  exact ⟨⟨h.cl, h3⟩, ⟨h.wf, h5⟩, h4⟩
section
variable {H : Type} {enc : TypeId × Value → H} {w : World} {base : Nat} {spare : Nat → Bool} {held : Bool} {fuel : Nat} {cs : List Value} {x : DataW H × List MemPlace}
theorem Try.cellsPlan : Try.prog.cellsOf 33 = 5 := by kernel_rfl
theorem Try.cellsPeriod : Try.prog.cellsOf 71 = 2 := by kernel_rfl
theorem Try.cellsCs6 : Try.prog.cellsOf 24 = 1 := by kernel_rfl
theorem Try.cellsPs6 : Try.prog.cellsOf 31 = 1 := by kernel_rfl
theorem Try.cellsLong6 : Try.prog.cellsOf 28 = 1 := by kernel_rfl
theorem coins_openL {a : Option Addr} {len cap : Nat} (h : DataW.trod enc Try.prog w base spare held fuel 24 [.slice a len cap] = some x) (hlen : len ≤ 9223372036854775807) :
    ∃ l : List Cn, IsCL w (.slice a len cap) l ∧ l.length = len ∧ ∀ y ∈ l, CnWf y := by
  obtain ⟨l, h1, h2, h3⟩ := @open_list H enc w base spare held fuel x Cn ⟨⟨0, 0, 0, 0, 0⟩⟩ 24 66 5 (by omega) Try.underlying24 Try.cellsCoin cnV CnWf (fun m cs x h => by obtain ⟨y, e, hy⟩ := coin_of_cells h; exact ⟨y, e, rfl, hy⟩) a len cap h
  refine ⟨l, ?_, h1, h2⟩
  rcases h3 with h3 | ⟨blk, off, rfl, hb, hc⟩
  · subst h3
    exact .inl ⟨List.eq_nil_of_length_eq_zero h1, a, cap, rfl⟩
  · by_cases hl : l = []
    · subst hl; simp at h1; subst h1; exact .inl ⟨rfl, _, _, rfl⟩
    · exact .inr ⟨blk, off, cap, by rw [h1], hl, by omega, hb, fun i y hi => ⟨hc i y hi 0 _ rfl, hc i y hi 1 _ rfl, hc i y hi 2 _ rfl, hc i y hi 3 _ rfl, hc i y hi 4 _ rfl⟩⟩
theorem pa_of_cells (h : DataW.trod enc Try.prog w base spare held fuel 71 cs = some x) : ∃ y : Pa, cs = paV y ∧ (paV y).length = 2 ∧ PaIn w y := by
  obtain ⟨xs, m, -, -, hl, hx, hi⟩ := DataW.trod_struct Try.underlying71 h
  rw [Try.cellsPeriod] at hl
  have f0 : DataW.trod enc Try.prog w base spare held m 28 ((cs.drop 0).take (Try.prog.cellsOf 28)) = xs[0]? := hi 0 _ rfl
  have f1 : DataW.trod enc Try.prog w base spare held m 24 ((cs.drop 1).take (Try.prog.cellsOf 24)) = xs[1]? := hi 1 _ rfl
  rw [Try.cellsLong6] at f0
  rw [Try.cellsCs6] at f1
  match cs, hl with
  | [c0, c1], _ =>
    have hx2 : xs.length = 2 := hx
    have g0 := f0.trans (List.getElem?_eq_getElem (by omega))
    have g1 := f1.trans (List.getElem?_eq_getElem (by omega))
    obtain ⟨d, ed, -, wd⟩ := DataW.trod_int Try.underlying28 g0
    obtain ⟨a, n, cap, ea, hn⟩ := slice_form Try.underlying24 g1
    simp at ed ea
    subst ed ea
    obtain ⟨l, h1, h2, h3⟩ := coins_openL g1 hn
    exact ⟨⟨d, a, n, cap, l⟩, rfl, rfl, by have := bounds_u64 wd; show 0 ≤ d ∧ d < _; omega, h2, h1, h3⟩
theorem periods_open {a : Option Addr} {len cap : Nat} (h : DataW.trod enc Try.prog w base spare held fuel 31 [.slice a len cap] = some x) :
    ∃ l : List Pd, len ≤ 9223372036854775807 → IsPds w (.slice a len cap) l ∧ l.length = len ∧ ∀ q ∈ l, PdWf q := by
  obtain ⟨l, h1, h2, h3⟩ := @open_list H enc w base spare held fuel x Pa ⟨⟨0, none, 0, 0, []⟩⟩ 31 71 2 (by omega) Try.underlying31 Try.cellsPeriod paV (PaIn w) (fun m cs x h => pa_of_cells h) a len cap h
  refine ⟨l.map Pa.pd, fun hl => ⟨?_, by simpa using h1, ?_⟩⟩
  · rcases h3 with h3 | ⟨blk, off, rfl, hb, hc⟩
    · subst h3
      obtain rfl := List.eq_nil_of_length_eq_zero h1
      exact .inl ⟨rfl, a, cap, rfl⟩
    · by_cases hn : l = []
      · subst hn; simp at h1; subst h1; exact .inl ⟨rfl, _, _, rfl⟩
      · refine .inr ⟨blk, off, cap, by simp [h1], by simpa using hn, by simpa [h1] using hl, hb, fun i q hi => ?_⟩
        rw [List.getElem?_map] at hi
        obtain ⟨y, hy, rfl⟩ := Option.map_eq_some_iff.1 hi
        exact ⟨hc i y hy 0 _ rfl, hc i y hy 1 _ rfl, (h2 y (List.mem_of_getElem? hy)).cl⟩
  · intro q hq
    obtain ⟨y, hy, rfl⟩ := List.mem_map.1 hq
    exact ⟨(h2 y hy).n, (h2 y hy).wf⟩
theorem plan_of_cells (h : DataW.trod enc Try.prog w base spare held fuel 33 cs = some x) : ∃ y : Pn, cs = [.int .u8 y.k, .int .u64 y.s, .int .u64 y.e, y.av, y.pv] ∧ PlanIn w y := by
  obtain ⟨xs, m, -, -, hl, hx, hi⟩ := DataW.trod_struct Try.underlying33 h
  rw [Try.cellsPlan] at hl
  have f0 : DataW.trod enc Try.prog w base spare held m 5 ((cs.drop 0).take (Try.prog.cellsOf 5)) = xs[0]? := hi 0 _ rfl
  have f1 : DataW.trod enc Try.prog w base spare held m 28 ((cs.drop 1).take (Try.prog.cellsOf 28)) = xs[1]? := hi 1 _ rfl
  have f2 : DataW.trod enc Try.prog w base spare held m 28 ((cs.drop 2).take (Try.prog.cellsOf 28)) = xs[2]? := hi 2 _ rfl
  have f3 : DataW.trod enc Try.prog w base spare held m 24 ((cs.drop 3).take (Try.prog.cellsOf 24)) = xs[3]? := hi 3 _ rfl
  have f4 : DataW.trod enc Try.prog w base spare held m 31 ((cs.drop 4).take (Try.prog.cellsOf 31)) = xs[4]? := hi 4 _ rfl
  rw [Try.cellsU8] at f0
  rw [Try.cellsLong6] at f1 f2
  rw [Try.cellsCs6] at f3
  rw [Try.cellsPs6] at f4
  match cs, hl with
  | [c0, c1, c2, c3, c4], _ =>
    have hx2 : xs.length = 5 := hx
    obtain ⟨k, ek, -, wk⟩ := DataW.trod_int Try.underlying5 (f0.trans (List.getElem?_eq_getElem (by omega)))
    obtain ⟨s, es, -, ws⟩ := DataW.trod_int Try.underlying28 (f1.trans (List.getElem?_eq_getElem (by omega)))
    obtain ⟨t, et, -, wt⟩ := DataW.trod_int Try.underlying28 (f2.trans (List.getElem?_eq_getElem (by omega)))
    have g3 := f3.trans (List.getElem?_eq_getElem (by omega))
    have g4 := f4.trans (List.getElem?_eq_getElem (by omega))
    obtain ⟨a, n, cap, ea, hn⟩ := slice_form Try.underlying24 g3
    obtain ⟨a', n', cap', ea', hn'⟩ := slice_form Try.underlying31 g4
    simp at ek es et ea ea'
    subst ek es et ea ea'
    obtain ⟨l, h1, h2, h3⟩ := coins_openL g3 hn
    obtain ⟨pl, hp⟩ := periods_open g4
    exact ⟨⟨k, s, t, .slice a n cap, .slice a' n' cap', l, pl⟩, rfl, ⟨wf_u8 wk, by have := bounds_u64 ws; show 0 ≤ s ∧ s < _; omega, by have := bounds_u64 wt; show 0 ≤ t ∧ t < _; omega, h3⟩, h1, a', n', cap', rfl, hn', hp⟩
theorem okWide_plan {W : World} {b : Nat} {r : Reach} {v : Value} (h : Value.okWide Try.prog W r b 33 v) : ∃ cs, v = .agg cs := by
  unfold Value.okWide at h
  rw [Try.underlying33] at h
  obtain ⟨cs, e, -⟩ := h
  exact ⟨cs, e⟩
theorem plan_in {W : World} {b : Nat} {r : Reach} {v : Value} (hv : Value.okWide Try.prog W r b 33 v) (h : ∃ fuel, DataW.trod enc Try.prog w base spare held fuel 33 v.cells.toList = some x) :
    ∃ y : Pn, v = pnV y ∧ PlanIn w y := by
  obtain ⟨cs, rfl⟩ := okWide_plan hv
  obtain ⟨fuel, h⟩ := h
  obtain ⟨y, e, hl⟩ := plan_of_cells h
  refine ⟨y, ?_, hl⟩
  cases cs
  simp [Value.cells] at e
  rw [e]
  rfl
end
end Go.Proofs.Ytjhjgncnadhbhaa

/- What plans are made of, as it comes in; few. -/
namespace Go.Proofs.Ytjhjgncnadhbhaa
open Go.ChangeShapes Go.WideShapes Go.ChangeAt Go.RowKit

def pcV (y : Pa) : List Value := [.int .u16 y.n, .slice y.a y.m y.cap]
/-- A piece that came in. -/
structure PcIn (w : World) (y : Pa) : Prop where
  n : 0 ≤ y.n ∧ y.n ≤ 65535
  len : y.l.length = y.m
  cl : IsCL w (.slice y.a y.m y.cap) y.l
  wf : ∀ x ∈ y.l, CnWf x
/-- What a plan is made of: its kind, start and length, coins, pieces. -/
structure Md where
  k : Int
  s : Int
  n : Int
  a1 : Option Addr
  n1 : Nat
  c1 : Nat
  a2 : Option Addr
  n2 : Nat
  c2 : Nat
  l : List Cn
  ps : List Pa
def mdC (y : Md) : List Value := [.int .u8 y.k, .int .u32 y.s, .int .u16 y.n, .slice y.a1 y.n1 y.c1, .slice y.a2 y.n2 y.c2]
def mdV (y : Md) : Value := .agg #[.int .u8 y.k, .int .u32 y.s, .int .u16 y.n, .slice y.a1 y.n1 y.c1, .slice y.a2 y.n2 y.c2]
structure MdIn (w : World) (y : Md) : Prop where
  k : 0 ≤ y.k ∧ y.k ≤ 255
  s : 0 ≤ y.s ∧ y.s ≤ 4294967295
  n : 0 ≤ y.n ∧ y.n ≤ 65535
  n1 : y.n1 ≤ 9223372036854775807
  n2 : y.n2 ≤ 9223372036854775807
  len : y.l.length = y.n1
  cl : IsCL w (.slice y.a1 y.n1 y.c1) y.l
  wf : ∀ x ∈ y.l, CnWf x
  num : y.ps.length = y.n2
  ok : ∀ q ∈ y.ps, PcIn w q
  cell : y.n2 = 0 ∨ ∃ blk off, y.a2 = some ⟨blk, off, none⟩ ∧ blk < w.heap.size ∧ ∀ i q, y.ps[i]? = some q → ∀ j v, (pcV q)[j]? = some v → w.cell? ⟨blk, off + i * 2 + j, none⟩ = some v
section
variable {H : Type} {enc : TypeId × Value → H} {w : World} {base : Nat} {spare : Nat → Bool} {held : Bool} {fuel : Nat} {cs : List Value} {x : DataW H × List MemPlace}
theorem Try.cellsMade : Try.prog.cellsOf 27 = 5 := by kernel_rfl
theorem Try.cellsPiece : Try.prog.cellsOf 68 = 2 := by kernel_rfl
theorem Try.cellsPcs : Try.prog.cellsOf 25 = 1 := by kernel_rfl
theorem Try.cellsU16m : Try.prog.cellsOf 23 = 1 := by kernel_rfl
theorem Try.cellsU32m : Try.prog.cellsOf 22 = 1 := by kernel_rfl
theorem wf_u16 {n : Int} (h : (Lit.int .u16 n).wf = true) : 0 ≤ n ∧ n ≤ 65535 := by
  have := bounds_u16 h; omega
theorem wf_u32 {n : Int} (h : (Lit.int .u32 n).wf = true) : 0 ≤ n ∧ n ≤ 4294967295 := by
  have := bounds_u32 h; omega
theorem pc_of_cells (h : DataW.trod enc Try.prog w base spare held fuel 68 cs = some x) : ∃ y : Pa, cs = pcV y ∧ (pcV y).length = 2 ∧ PcIn w y := by
  obtain ⟨xs, m, -, -, hl, hx, hi⟩ := DataW.trod_struct Try.underlying68 h
  rw [Try.cellsPiece] at hl
  have f0 : DataW.trod enc Try.prog w base spare held m 23 ((cs.drop 0).take (Try.prog.cellsOf 23)) = xs[0]? := hi 0 _ rfl
  have f1 : DataW.trod enc Try.prog w base spare held m 24 ((cs.drop 1).take (Try.prog.cellsOf 24)) = xs[1]? := hi 1 _ rfl
  rw [Try.cellsU16m] at f0
  rw [Try.cellsCs6] at f1
  match cs, hl with
  | [c0, c1], _ =>
    have hx2 : xs.length = 2 := hx
    have g0 := f0.trans (List.getElem?_eq_getElem (by omega))
    have g1 := f1.trans (List.getElem?_eq_getElem (by omega))
    obtain ⟨d, ed, -, wd⟩ := DataW.trod_int Try.underlying23 g0
    obtain ⟨a, n, cap, ea, hn⟩ := slice_form Try.underlying24 g1
    simp at ed ea
    subst ed ea
    obtain ⟨l, h1, h2, h3⟩ := coins_openL g1 hn
    exact ⟨⟨d, a, n, cap, l⟩, rfl, rfl, wf_u16 wd, h2, h1, h3⟩
theorem made_of_cells (h : DataW.trod enc Try.prog w base spare held fuel 27 cs = some x) : ∃ y : Md, cs = mdC y ∧ MdIn w y := by
  obtain ⟨xs, m, -, -, hl, hx, hi⟩ := DataW.trod_struct Try.underlying27 h
  rw [Try.cellsMade] at hl
  have f0 : DataW.trod enc Try.prog w base spare held m 5 ((cs.drop 0).take (Try.prog.cellsOf 5)) = xs[0]? := hi 0 _ rfl
  have f1 : DataW.trod enc Try.prog w base spare held m 22 ((cs.drop 1).take (Try.prog.cellsOf 22)) = xs[1]? := hi 1 _ rfl
  have f2 : DataW.trod enc Try.prog w base spare held m 23 ((cs.drop 2).take (Try.prog.cellsOf 23)) = xs[2]? := hi 2 _ rfl
  have f3 : DataW.trod enc Try.prog w base spare held m 24 ((cs.drop 3).take (Try.prog.cellsOf 24)) = xs[3]? := hi 3 _ rfl
  have f4 : DataW.trod enc Try.prog w base spare held m 25 ((cs.drop 4).take (Try.prog.cellsOf 25)) = xs[4]? := hi 4 _ rfl
  rw [Try.cellsU8] at f0
  rw [Try.cellsU32m] at f1
  rw [Try.cellsU16m] at f2
  rw [Try.cellsCs6] at f3
  rw [Try.cellsPcs] at f4
  match cs, hl with
  | [c0, c1, c2, c3, c4], _ =>
    have hx2 : xs.length = 5 := hx
    obtain ⟨k, ek, -, wk⟩ := DataW.trod_int Try.underlying5 (f0.trans (List.getElem?_eq_getElem (by omega)))
    obtain ⟨s, es, -, ws⟩ := DataW.trod_int Try.underlying22 (f1.trans (List.getElem?_eq_getElem (by omega)))
    obtain ⟨t, et, -, wt⟩ := DataW.trod_int Try.underlying23 (f2.trans (List.getElem?_eq_getElem (by omega)))
    have g3 := f3.trans (List.getElem?_eq_getElem (by omega))
    have g4 := f4.trans (List.getElem?_eq_getElem (by omega))
    obtain ⟨a, n, cap, ea, hn⟩ := slice_form Try.underlying24 g3
    obtain ⟨a', n', cap', ea', hn'⟩ := slice_form Try.underlying25 g4
    simp at ek es et ea ea'
    subst ek es et ea ea'
    obtain ⟨l, h1, h2, h3⟩ := coins_openL g3 hn
    obtain ⟨ps, p1, p2, p3⟩ := @open_list H enc w base spare held _ _ Pa ⟨⟨0, none, 0, 0, []⟩⟩ 25 68 2 (by omega) Try.underlying25 Try.cellsPiece pcV (PcIn w) (fun m cs x h => pc_of_cells h) _ _ _ g4
    exact ⟨⟨k, s, t, a, n, cap, a', n', cap', l, ps⟩, rfl, wf_u8 wk, wf_u32 ws, wf_u16 wt, hn, hn', h2, h1, h3, p1, p2, p3⟩
theorem okWide_made {W : World} {b : Nat} {r : Reach} {v : Value} (h : Value.okWide Try.prog W r b 27 v) : ∃ cs, v = .agg cs := by
  unfold Value.okWide at h
  rw [Try.underlying27] at h
  obtain ⟨cs, e, -⟩ := h
  exact ⟨cs, e⟩
theorem made_in {W : World} {b : Nat} {r : Reach} {v : Value} (hv : Value.okWide Try.prog W r b 27 v) (h : ∃ fuel, DataW.trod enc Try.prog w base spare held fuel 27 v.cells.toList = some x) :
    ∃ y : Md, v = mdV y ∧ MdIn w y := by
  obtain ⟨cs, rfl⟩ := okWide_made hv
  obtain ⟨fuel, h⟩ := h
  obtain ⟨y, e, hl⟩ := made_of_cells h
  refine ⟨y, ?_, hl⟩
  cases cs
  simp [Value.cells, mdC] at e
  rw [e]
  rfl
end
/-- A piece's cells. -/
theorem pc_at {w X : World} {y : Md} (h : MdIn w y) (hX : Below w.heap.size w X) {i : Nat} (hi : i < y.ps.length) : ∃ blk off, y.a2 = some ⟨blk, off, none⟩ ∧ blk < w.heap.size ∧ X.cell? ⟨blk, off + i * 2, none⟩ = some (.int .u16 y.ps[i].n) ∧ X.cell? ⟨blk, off + i * 2 + 1, none⟩ = some (.slice y.ps[i].a y.ps[i].m y.ps[i].cap) := by
  have hn := h.num
  obtain ⟨blk, off, ea, hb, hcell⟩ := h.cell.resolve_left (by omega)
  have hg := List.getElem?_eq_getElem hi
  exact ⟨blk, off, ea, hb, (hX.cell (p := ⟨blk, off + i * 2, none⟩) hb).trans (hcell i _ hg 0 _ rfl), (hX.cell (p := ⟨blk, off + i * 2 + 1, none⟩) hb).trans (hcell i _ hg 1 _ rfl)⟩
def fewM (y : Md) : Bool := decide (y.n1 ≤ 20) && decide (y.n2 ≤ 20) && y.ps.all (fun q => decide (q.m ≤ 20))
set_option maxHeartbeats 4000000 in
theorem few6_any {w : World} {y : Md} (h : MdIn w y) (W : World) (hB : Below w.heap.size w W) :
    Calls Try.prog 7 #[mdV y] W fun e w' => e = .returned (.bool (fewM y)) ∧ Below W.heap.size W w' := by
  have hk := fun X hX i hi => @pc_at w X y h hX i hi
  have hk : Hid _ := hk
  have hn1 := h.n1
  have hn2 := h.n2
  have hnum : Hid _ := h.num
  have hms : Hid (∀ q ∈ y.ps, q.m ≤ 9223372036854775807) := fun q hq => by have h1 := (h.ok q hq).len; have h2 := (h.ok q hq).cl.len; omega
  have hf : Hid (fewM y = (decide (y.n1 ≤ 20) && decide (y.n2 ≤ 20) && y.ps.all (fun q => decide (q.m ≤ 20)))) := rfl
  clear h
  obtain ⟨k, s, n, a1, n1, c1, a2, n2, c2, l, ps⟩ := y
  simp only at hk hn1 hn2 hnum hms hf
  generalize hK : fewM ⟨k, s, n, a1, n1, c1, a2, n2, c2, l, ps⟩ = K at *
  clear hK
  show Calls Try.prog 7 #[.agg #[.int .u8 k, .int .u32 s, .int .u16 n, .slice a1 n1 c1, .slice a2 n2 c2]] W _
  have hb0 : Below W.heap.size W (W.alloc (.cells #[.int .u8 k, .int .u32 s, .int .u16 n, .slice a1 n1 c1, .slice a2 n2 c2] 27)) := ba (Below.refl _ _) _
  have hPb : (W.alloc (.cells #[.int .u8 k, .int .u32 s, .int .u16 n, .slice a1 n1 c1, .slice a2 n2 c2] 27)).heap[W.heap.size]? = some (.cells #[.int .u8 k, .int .u32 s, .int .u16 n, .slice a1 n1 c1, .slice a2 n2 c2] 27 (0, 0)) := al_at rfl
  have hPs : (W.alloc (.cells #[.int .u8 k, .int .u32 s, .int .u16 n, .slice a1 n1 c1, .slice a2 n2 c2] 27)).heap.size = W.heap.size + 1 := by simp
  by_cases h1 : 20 < n1
  · have h1' : (20 : Int) < (n1 : Int) := by omega
    have hr : Hid (K = false) := by unfold Hid; rw [hf.out, decide_eq_false (by omega : ¬ n1 ≤ 20)]; simp
    clear hf hk
    go_enter Try.func7, Try.ntmps7
    go_wp2
    go_ret
    rw [hr.out]
    exact ⟨rfl, hb0⟩
  have h1' : ¬ (20 : Int) < (n1 : Int) := by omega
  by_cases h2 : 20 < n2
  · have h2' : (20 : Int) < (n2 : Int) := by omega
    have hr : Hid (K = false) := by unfold Hid; rw [hf.out, decide_eq_false (by omega : ¬ n2 ≤ 20)]; simp
    clear hf hk
    go_enter Try.func7, Try.ntmps7
    go_wp2
    go_ret
    rw [hr.out]
    exact ⟨rfl, hb0⟩
  have h2' : ¬ (20 : Int) < (n2 : Int) := by omega
  rw [decide_eq_true (by omega : n1 ≤ 20), decide_eq_true (by omega : n2 ≤ 20)] at hf
  go_enter Try.func7, Try.ntmps7
  go_wp2
  generalize W.alloc (.cells #[.int .u8 k, .int .u32 s, .int .u16 n, .slice a1 n1 c1, .slice a2 n2 c2] 27) = P at *
  go_loopw [3] (fun iv X => ∃ (i : Nat), i ≤ n2 ∧ iv = .int .i64 (i : Int) ∧ Hid (∀ q ∈ ps.take i, q.m ≤ 20) ∧ Below P.heap.size P X ∧ Below W.heap.size W X) (fun iv _ => n2 - (intOf iv).toNat)
  case atStart => exact ⟨0, by omega, rfl, by unfold Hid; simp, Below.refl _ _, hb0⟩
  case round =>
    obtain ⟨i, hi, rfl, hc, hXP, hX⟩ := hrel
    obtain ⟨cp, fp⟩ := cells_of_block ((hXP.block W.heap.size (by omega)).trans hPb)
    have k4 : wr.cell? ⟨W.heap.size, 4, none⟩ = some (.slice a2 n2 c2) := cp 4
    clear cp fp
    by_cases hlt : i < n2
    · have hlt' : (i : Int) < (n2 : Int) := by omega
      have hip : i < ps.length := by have := hnum.out; omega
      obtain ⟨blk, off, rfl, hbl, d0, d1⟩ := hk.out wr (bt hB hX) i hip
      have hm := hms.out ps[i] (List.getElem_mem hip)
      have htk : Hid (ps.take (i + 1) = ps.take i ++ [ps[i]]) := List.take_succ_eq_append_getElem hip
      have hmem : Hid (ps[i] ∈ ps) := List.getElem_mem hip
      generalize ps[i] = q at *
      by_cases hq : 20 < q.m
      · have hq' : (20 : Int) < (q.m : Int) := by omega
        have hr : Hid (K = false) := by
          unfold Hid; rw [hf.out]
          have : ps.all (fun q => decide (q.m ≤ 20)) = false := by
            rw [Bool.eq_false_iff]; intro e
            have := List.all_eq_true.1 e q hmem.out
            simp at this; omega
          rw [this]; rfl
        clear hf hk hc htk
        go_wp2
        go_ret
        rw [hr.out]
        exact ⟨rfl, hX⟩
      · have hq' : ¬ (20 : Int) < (q.m : Int) := by omega
        have hc2 : Hid (∀ q ∈ ps.take (i + 1), q.m ≤ 20) := by
          intro z hz
          rw [htk.out] at hz
          rcases List.mem_append.1 hz with h | h
          · exact hc.out z h
          · rw [List.mem_singleton] at h; subst h; omega
        clear hf hk hc htk
        go_wp2
        all_goals go_roundw
        case rel => exact ⟨i + 1, by omega, by go_num, hc2, hXP, hX⟩
        case measure => (simp [intOf]; omega)
    · obtain rfl : i = n2 := by omega
      have hr : Hid (K = true) := by
        unfold Hid
        have e := hnum.out
        have := hc.out
        rw [← e, List.take_length] at this
        rw [hf.out]
        simp only [Bool.true_and, List.all_eq_true, decide_eq_true_eq]
        exact this
      clear hf hk hc
      go_wp2
      go_ret
      rw [hr.out]
      exact ⟨rfl, hX⟩
end Go.Proofs.Ytjhjgncnadhbhaa
