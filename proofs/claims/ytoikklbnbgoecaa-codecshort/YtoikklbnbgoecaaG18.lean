
/- codec's writer: truths, short and long numbers; the document's bytes of them. -/
import Derived.Test.YtoikklbnbgoecaaG15
set_option linter.unusedSimpArgs false
set_option linter.unusedVariables false
namespace Go.Proofs.Ytoikklbnbgoecaa
open Go.RowKit

/-- A number in so many bytes, the highest first. -/
def be (n : Int) : Nat → List Int
  | 0 => []
  | k + 1 => (n / 256 ^ k % 256) :: be n k
theorem be_len (n : Int) : ∀ k, (be n k).length = k
  | 0 => rfl
  | k + 1 => by simp [be, be_len n k]

theorem src_cells {W : World} {c : Array Value} {q : List Int} {k n : Nat} {t : TypeId} (hc : c = (encB q).toArray) (hk : k = q.length) (hn : n = W.heap.size) : Src (W.alloc (.cells c t)) (.slice (some ⟨n, 0, none⟩) k k) q := by
  subst hc hk hn
  exact src_new W q t
set_option maxHeartbeats 1000000 in
theorem wFlag_any {W : World} {b base : Nat} {v : Value} {p : List Int} (is : Bool) (hW : WrAt W b base v p) (hbase : base ≤ W.heap.size) (hl : p.length + 1 ≤ 1048576) :
    Calls Try.prog 27 #[.pointer (some ⟨b, 0, none⟩), .bool is] W fun e w' => e = .returned (.pointer (some ⟨b, 0, none⟩)) ∧ ∃ v', WrAt w' b base v' (p ++ [if is then 1 else 0]) ∧ WF W w' b v v' := by
  cases is with
  | true =>
    have hg := World.grownBy_alloc W (.cells #[.int .u8 1] 5) none
    have hL := lay_any (hW.kept hg (by simp) (by cases v.ownBlock <;> simp)) (by simp; omega) (q := [1]) hl (src_new W [1] 5)
    go_enter Try.func27, Try.ntmps27
    go_wp2_with (go_at_call 49; refine hL.mono ?_; rintro e w1 ⟨rfl, v', h1, h2⟩)
    go_ret
    exact ⟨rfl, v', h1, h2.pre hg⟩
  | false =>
    have hg := World.grownBy_alloc W (.cells #[.int .u8 0] 5) none
    have hL := lay_any (hW.kept hg (by simp) (by cases v.ownBlock <;> simp)) (by simp; omega) (q := [0]) hl (src_new W [0] 5)
    go_enter Try.func27, Try.ntmps27
    go_wp2_with (go_at_call 49; refine hL.mono ?_; rintro e w1 ⟨rfl, v', h1, h2⟩)
    go_ret
    exact ⟨rfl, v', h1, h2.pre hg⟩
set_option maxHeartbeats 1000000 in
theorem wShort_any {W : World} {b base : Nat} {v : Value} {p : List Int} (x : Int) (hx : 0 ≤ x ∧ x < 65536) (hW : WrAt W b base v p) (hbase : base ≤ W.heap.size) (hl : p.length + 2 ≤ 1048576) :
    Calls Try.prog 28 #[.pointer (some ⟨b, 0, none⟩), .int .u16 x] W fun e w' => e = .returned (.pointer (some ⟨b, 0, none⟩)) ∧ ∃ v', WrAt w' b base v' (p ++ be x 2) ∧ WF W w' b v v' := by
  have hbe : be x 2 = [x / 256, x % 256] := by simp only [be, Int.pow_zero, Int.pow_succ, Int.ediv_one, Int.one_mul]; congr 1; omega
  rw [hbe]
  have hg := World.grownBy_alloc W (.cells #[.int .u8 (x / 256), .int .u8 (x % 256)] 5) none
  have hL := lay_any (hW.kept hg (by simp) (by cases v.ownBlock <;> simp)) (by simp; omega) (q := [x / 256, x % 256]) hl (src_new W [x / 256, x % 256] 5)
  have hw1 : IntKind.u8.wrap (x / 256) = x / 256 := by rw [IntKind.wrap_u8]; omega
  have hw2 : IntKind.u8.wrap x = x % 256 := by rw [IntKind.wrap_u8]
  go_enter Try.func28, Try.ntmps28
  go_wp2_with (go_at_call 49; refine hL.mono ?_; rintro e w1 ⟨rfl, v', h1, h2⟩)
  go_ret
  exact ⟨rfl, v', h1, h2.pre hg⟩
theorem be_8 (n : Int) : be (n / 281474976710656 % 65536) 2 ++ be (n / 4294967296 % 65536) 2 ++ be (n / 65536 % 65536) 2 ++ be (n % 65536) 2 = be n 8 := by
  simp only [be, Int.pow_zero, Int.pow_succ, Int.ediv_one, Int.one_mul, List.cons_append, List.nil_append, List.cons.injEq, and_true]
  omega
set_option maxHeartbeats 2000000 in
theorem wLong_any {W : World} {b base : Nat} {v : Value} {p : List Int} (n : Int) (hn : 0 ≤ n ∧ n < 18446744073709551616) (hW : WrAt W b base v p) (hbase : base ≤ W.heap.size) (hl : p.length + 8 ≤ 1048576) :
    Calls Try.prog 29 #[.pointer (some ⟨b, 0, none⟩), .int .u64 n] W fun e w' => e = .returned (.pointer (some ⟨b, 0, none⟩)) ∧ ∃ v', WrAt w' b base v' (p ++ be n 8) ∧ WF W w' b v v' := by
  have hb2 := be_len
  have S1 := wShort_any (n / 281474976710656 % 65536) (by omega) hW hbase (by omega)
  have hw1 : IntKind.u16.wrap (n / 281474976710656) = n / 281474976710656 % 65536 := by rw [IntKind.wrap_u16]
  have hw2 : IntKind.u16.wrap (n / 4294967296) = n / 4294967296 % 65536 := by rw [IntKind.wrap_u16]
  have hw3 : IntKind.u16.wrap (n / 65536) = n / 65536 % 65536 := by rw [IntKind.wrap_u16]
  have hw4 : IntKind.u16.wrap n = n % 65536 := by rw [IntKind.wrap_u16]
  go_enter Try.func29, Try.ntmps29
  go_wp2_with (first
    | (go_at_call 28; refine S1.mono ?_; rintro e w1 ⟨rfl, v1, W1, F1⟩; clear S1; have z1 := F1.size; have l1 : (p ++ be (n / 281474976710656 % 65536) 2).length = p.length + 2 := (by rw [List.length_append, be_len]); have S2 := wShort_any (n / 4294967296 % 65536) (by omega) W1 (by omega) (by omega))
    | (go_at_call 28; refine S2.mono ?_; rintro e w2 ⟨rfl, v2, W2, F2⟩; clear S2; have z2 := F2.size; have l2 : (p ++ be (n / 281474976710656 % 65536) 2 ++ be (n / 4294967296 % 65536) 2).length = p.length + 4 := (by rw [List.length_append, be_len, l1]); have S3 := wShort_any (n / 65536 % 65536) (by omega) W2 (by omega) (by omega))
    | (go_at_call 28; refine S3.mono ?_; rintro e w3 ⟨rfl, v3, W3, F3⟩; clear S3; have z3 := F3.size; have l3 : (p ++ be (n / 281474976710656 % 65536) 2 ++ be (n / 4294967296 % 65536) 2 ++ be (n / 65536 % 65536) 2).length = p.length + 6 := (by rw [List.length_append, be_len, l2]); have S4 := wShort_any (n % 65536) (by omega) W3 (by omega) (by omega))
    | (go_at_call 28; refine S4.mono ?_; rintro e w4 ⟨rfl, v4, W4, F4⟩; clear S4))
  go_ret
  refine ⟨rfl, v4, ?_, ((F1.trans F2).trans F3).trans F4⟩
  rw [← be_8 n]
  simpa [List.append_assoc] using W4

set_option maxHeartbeats 1000000 in
theorem flagR_any (is : Bool) (W : World) :
    Calls Try.prog 35 #[.bool is] W fun e w' => ∃ u, e = .returned u ∧ w'.ownsRow W.heap.size 5 1 u ([if is then 1 else 0] : List Int).length (encB [if is then 1 else 0]) ∧ Below W.heap.size W w' := by
  cases is with
  | true =>
    go_enter Try.func35, Try.ntmps35
    go_wp2
    go_ret
    exact ⟨_, rfl, ⟨rfl, .inr ⟨W.heap.size, 1, #[.int .u8 1], rfl, Nat.le_refl _, World.alloc_heap_new W _, Nat.le_refl _, by unfold maxLen; omega, rfl, rfl⟩⟩, by (repeat (first | (with_reducible exact Below.refl _ _) | (with_reducible assumption) | (with_reducible apply bd) | (with_reducible apply ba) | (with_reducible refine bp ?_ (by first | omega | (simp [pad_size]; done) | (simp [pad_size]; omega)) _ _) | (with_reducible refine bs ?_ (by first | omega | (simp [pad_size]; done) | (simp [pad_size]; omega)) _) | (with_reducible refine bt ?_ (by assumption))))⟩
  | false =>
    go_enter Try.func35, Try.ntmps35
    go_wp2
    go_ret
    exact ⟨_, rfl, ⟨rfl, .inr ⟨W.heap.size, 1, #[.int .u8 0], rfl, Nat.le_refl _, World.alloc_heap_new W _, Nat.le_refl _, by unfold maxLen; omega, rfl, rfl⟩⟩, by (repeat (first | (with_reducible exact Below.refl _ _) | (with_reducible assumption) | (with_reducible apply bd) | (with_reducible apply ba) | (with_reducible refine bp ?_ (by first | omega | (simp [pad_size]; done) | (simp [pad_size]; omega)) _ _) | (with_reducible refine bs ?_ (by first | omega | (simp [pad_size]; done) | (simp [pad_size]; omega)) _) | (with_reducible refine bt ?_ (by assumption))))⟩
end Go.Proofs.Ytoikklbnbgoecaa
