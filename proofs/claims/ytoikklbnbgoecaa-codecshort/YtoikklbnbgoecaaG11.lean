
/- jointurelaw04.reads. -/
import Derived.Test.YtoikklbnbgoecaaG9
import Derived.Test.YtoikklbnbgoecaaC5
set_option linter.unusedSimpArgs false
set_option linter.unusedVariables false
namespace Go.Proofs.Ytoikklbnbgoecaa
open Go.RowKit

/-- Nothing that was there has turned but two blocks. -/
structure Two (W W' : World) (r i : Nat) : Prop where
  os : W'.os = W.os
  tape : W'.tape = W.tape
  output : W'.output = W.output
  size : W.heap.size ≤ W'.heap.size
  block : ∀ k, k < W.heap.size → k ≠ r → k ≠ i → W'.heap[k]? = W.heap[k]?
theorem two_of {A B C : World} {r i : Nat} (h : A.grownBy B (some r)) (k : B.grownBy C (some i)) : Two A C r i :=
  ⟨k.os.trans h.os, k.tape.trans h.tape, k.output.trans h.output, Nat.le_trans h.size k.size, fun n hn h1 h2 => (k.block n (Nat.lt_of_lt_of_le hn h.size) (by simpa using h2)).trans (h.block n hn (by simpa using h1))⟩
theorem Two.post {A B C : World} {r i : Nat} (h : Two A B r i) (k : B.grownBy C none) : Two A C r i :=
  ⟨k.os.trans h.os, k.tape.trans h.tape, k.output.trans h.output, Nat.le_trans h.size k.size, fun n hn h1 h2 => (k.block n (Nat.lt_of_lt_of_le hn h.size) (by simp)).trans (h.block n hn h1 h2)⟩
theorem Two.below {w W W' : World} {r i : Nat} (h : Below w.heap.size w W) (k : Two W W' r i) (hr : w.heap.size ≤ r) (hi : w.heap.size ≤ i) : Below w.heap.size w W' :=
  ⟨k.os.trans h.os, k.tape.trans h.tape, k.output.trans h.output, Nat.le_trans h.size k.size, fun n hn => (k.block n (Nat.lt_of_lt_of_le hn h.size) (by omega) (by omega)).trans (h.block n hn)⟩
/-- What reading a part leaves; of coins s5. -/
def rdS (s s5 : Option (List Int)) (r : Int) : Option (List Int) :=
  if r = 0 then (byteS s).2 else if r = 1 then (flagS s).2 else if r = 2 then (numS s 2).2 else if r = 3 then (numS s 8).2 else if r = 4 then (nS s).2 else s5
/-- Coins are read so, by the program and by the document. -/
def RCo (s : Option (List Int)) (L : List Cn) (s' : Option (List Int)) : Prop := ∀ (W : World) (b : Nat) (D : Option Nat), D ≠ some b → (∀ d, D = some d → d < W.heap.size) → RdAt W b D s →
  Calls Try.prog 20 #[.pointer (some ⟨b, 0, none⟩)] W fun e w' => ∃ v, e = .returned v ∧ w'.ownsRow W.heap.size 74 5 v L.length (cellsL L) ∧ RdAt w' b D s' ∧ W.grownBy w' (some b)
def ICo (s : Option (List Int)) (L : List Cn) (s' : Option (List Int)) : Prop := ∀ (W : World) (b : Nat) (D : Option Nat), D ≠ some b → (∀ d, D = some d → d < W.heap.size) → InAt W b D s →
  Calls Try.prog 45 #[.pointer (some ⟨b, 0, none⟩)] W fun e w' => ∃ v, e = .returned v ∧ w'.ownsRow W.heap.size 74 5 v L.length (cellsL L) ∧ InAt w' b D s' ∧ W.grownBy w' (some b)
theorem InAt.bad {W : World} {b : Nat} {D : Option Nat} {s : Option (List Int)} (h : InAt W b D s) : W.cell? ⟨b, 2, none⟩ = some (.bool s.isNone) := by
  obtain ⟨a, cap, p, k, bad, hblk, hB, hk, h1, h2, rfl, c0, c1, c2, f⟩ := h.opn
  rw [c2]; cases bad <;> rfl

set_option maxRecDepth 10000 in
set_option maxHeartbeats 4000000 in
theorem reads_0 {W : World} {rb ib : Nat} {D E : Option Nat} {s : Option (List Int)} (n : Int) (hn : 0 ≤ n ∧ n ≤ 255) (hr : n % 6 = 0) (hne : rb ≠ ib) (hD : D ≠ some rb) (hD' : D ≠ some ib) (hE : E ≠ some ib) (hE' : E ≠ some rb) (hDl : ∀ d, D = some d → d < W.heap.size) (hEl : ∀ d, E = some d → d < W.heap.size) (hR : RdAt W rb D s) (hI : InAt W ib E s) :
    Calls Try.prog 16 #[.pointer (some ⟨rb, 0, none⟩), .pointer (some ⟨ib, 0, none⟩), .int .u8 n] W fun e w' => e = .returned (.bool true) ∧ RdAt w' rb D (byteS s).2 ∧ InAt w' ib E (byteS s).2 ∧ Two W w' rb ib := by
  have hlim := byteS_lim hR.rng
  have hbl := hR.lt
  have hil := hI.lt
  go_enter Try.func16, Try.ntmps16
  go_wp2_with (first
    | (go_at_call 26; refine (rByte_any hD hR).mono ?_; rintro e w1 ⟨rfl, hr1, hg1⟩; have hI1 := hI.kept hg1 (by simp; omega) (.inr hE'))
    | (go_at_call 41; refine (inByte_any hE hI1).mono ?_; rintro e w2 ⟨rfl, hI2, hg2⟩; have hr2 := hr1.kept hg2 (by simp; omega) (.inr hD'); have hT2 := two_of hg1 hg2))
  have hcb := hI2.bad
  go_quiet (first
    | (go_at_call 17; exact Calls.quiet_of_same (rBad_any (hr2.dn _)))
    | (go_at_call 22; exact Calls.quiet_of_same (rLeft_any (hr2.dn _)))
    | (go_at_call 47; exact Calls.quiet_of (inLeft_any (hI2.dn _)))
    | (go_at_call 18; exact Calls.quiet_of_same (rEnd_any (hr2.dn _)))
    | (go_at_call 19; exact Calls.quiet_of (inEnd_any (hI2.dn _))))
  go_wp2
  go_ret
  exact ⟨by simp, hr2.dn nq, hI2.dn nq, hT2.post (grown_dn (grown_ref _ _) nq)⟩
set_option maxRecDepth 10000 in
set_option maxHeartbeats 4000000 in
theorem reads_1 {W : World} {rb ib : Nat} {D E : Option Nat} {s : Option (List Int)} (n : Int) (hn : 0 ≤ n ∧ n ≤ 255) (hr : n % 6 = 1) (hne : rb ≠ ib) (hD : D ≠ some rb) (hD' : D ≠ some ib) (hE : E ≠ some ib) (hE' : E ≠ some rb) (hDl : ∀ d, D = some d → d < W.heap.size) (hEl : ∀ d, E = some d → d < W.heap.size) (hR : RdAt W rb D s) (hI : InAt W ib E s) :
    Calls Try.prog 16 #[.pointer (some ⟨rb, 0, none⟩), .pointer (some ⟨ib, 0, none⟩), .int .u8 n] W fun e w' => e = .returned (.bool true) ∧ RdAt w' rb D (flagS s).2 ∧ InAt w' ib E (flagS s).2 ∧ Two W w' rb ib := by
  have hlim := byteS_lim hR.rng
  have hbl := hR.lt
  have hil := hI.lt
  go_enter Try.func16, Try.ntmps16
  go_wp2_with (first
    | (go_at_call 31; refine (rFlag_any hD hR).mono ?_; rintro e w1 ⟨rfl, hr1, hg1⟩; have hI1 := hI.kept hg1 (by simp; omega) (.inr hE'))
    | (go_at_call 42; refine (inFlag_any hE hI1).mono ?_; rintro e w2 ⟨rfl, hI2, hg2⟩; have hr2 := hr1.kept hg2 (by simp; omega) (.inr hD'); have hT2 := two_of hg1 hg2))
  have hcb := hI2.bad
  go_quiet (first
    | (go_at_call 17; exact Calls.quiet_of_same (rBad_any (hr2.dn _)))
    | (go_at_call 22; exact Calls.quiet_of_same (rLeft_any (hr2.dn _)))
    | (go_at_call 47; exact Calls.quiet_of (inLeft_any (hI2.dn _)))
    | (go_at_call 18; exact Calls.quiet_of_same (rEnd_any (hr2.dn _)))
    | (go_at_call 19; exact Calls.quiet_of (inEnd_any (hI2.dn _))))
  go_wp2
  go_ret
  exact ⟨by simp, hr2.dn nq, hI2.dn nq, hT2.post (grown_dn (grown_ref _ _) nq)⟩
set_option maxRecDepth 10000 in
set_option maxHeartbeats 4000000 in
theorem reads_2 {W : World} {rb ib : Nat} {D E : Option Nat} {s : Option (List Int)} (n : Int) (hn : 0 ≤ n ∧ n ≤ 255) (hr : n % 6 = 2) (hne : rb ≠ ib) (hD : D ≠ some rb) (hD' : D ≠ some ib) (hE : E ≠ some ib) (hE' : E ≠ some rb) (hDl : ∀ d, D = some d → d < W.heap.size) (hEl : ∀ d, E = some d → d < W.heap.size) (hR : RdAt W rb D s) (hI : InAt W ib E s) :
    Calls Try.prog 16 #[.pointer (some ⟨rb, 0, none⟩), .pointer (some ⟨ib, 0, none⟩), .int .u8 n] W fun e w' => e = .returned (.bool true) ∧ RdAt w' rb D (numS s 2).2 ∧ InAt w' ib E (numS s 2).2 ∧ Two W w' rb ib := by
  have hlim := byteS_lim hR.rng
  have hbl := hR.lt
  have hil := hI.lt
  have hl2 : 0 ≤ (numS s 2).1 ∧ (numS s 2).1 < 256 ^ 2 := takeS_lim hR.rng 2
  rw [show (256 : Int) ^ 2 = 65536 by decide] at hl2
  go_enter Try.func16, Try.ntmps16
  go_wp2_with (first
    | (go_at_call 32; refine (rShort_any hD hR).mono ?_; rintro e w1 ⟨rfl, hr1, hg1⟩; have hI1 := hI.kept hg1 (by simp; omega) (.inr hE'))
    | (go_at_call 43; refine (inLong_any 2 (by omega) hE hI1).mono ?_; rintro e w2 ⟨rfl, hI2, hg2⟩; have hr2 := hr1.kept hg2 (by simp; omega) (.inr hD'); have hT2 := two_of hg1 hg2))
  have hcb := hI2.bad
  go_quiet (first
    | (go_at_call 17; exact Calls.quiet_of_same (rBad_any (hr2.dn _)))
    | (go_at_call 22; exact Calls.quiet_of_same (rLeft_any (hr2.dn _)))
    | (go_at_call 47; exact Calls.quiet_of (inLeft_any (hI2.dn _)))
    | (go_at_call 18; exact Calls.quiet_of_same (rEnd_any (hr2.dn _)))
    | (go_at_call 19; exact Calls.quiet_of (inEnd_any (hI2.dn _))))
  go_wp2
  go_ret
  exact ⟨by simp, hr2.dn nq, hI2.dn nq, hT2.post (grown_dn (grown_ref _ _) nq)⟩
set_option maxRecDepth 10000 in
set_option maxHeartbeats 4000000 in
theorem reads_3 {W : World} {rb ib : Nat} {D E : Option Nat} {s : Option (List Int)} (n : Int) (hn : 0 ≤ n ∧ n ≤ 255) (hr : n % 6 = 3) (hne : rb ≠ ib) (hD : D ≠ some rb) (hD' : D ≠ some ib) (hE : E ≠ some ib) (hE' : E ≠ some rb) (hDl : ∀ d, D = some d → d < W.heap.size) (hEl : ∀ d, E = some d → d < W.heap.size) (hR : RdAt W rb D s) (hI : InAt W ib E s) :
    Calls Try.prog 16 #[.pointer (some ⟨rb, 0, none⟩), .pointer (some ⟨ib, 0, none⟩), .int .u8 n] W fun e w' => e = .returned (.bool true) ∧ RdAt w' rb D (numS s 8).2 ∧ InAt w' ib E (numS s 8).2 ∧ Two W w' rb ib := by
  have hlim := byteS_lim hR.rng
  have hbl := hR.lt
  have hil := hI.lt
  go_enter Try.func16, Try.ntmps16
  go_wp2_with (first
    | (go_at_call 33; refine (rLong_any hD hR).mono ?_; rintro e w1 ⟨rfl, hr1, hg1⟩; have hI1 := hI.kept hg1 (by simp; omega) (.inr hE'))
    | (go_at_call 43; refine (inLong_any 8 (by omega) hE hI1).mono ?_; rintro e w2 ⟨rfl, hI2, hg2⟩; have hr2 := hr1.kept hg2 (by simp; omega) (.inr hD'); have hT2 := two_of hg1 hg2))
  have hcb := hI2.bad
  go_quiet (first
    | (go_at_call 17; exact Calls.quiet_of_same (rBad_any (hr2.dn _)))
    | (go_at_call 22; exact Calls.quiet_of_same (rLeft_any (hr2.dn _)))
    | (go_at_call 47; exact Calls.quiet_of (inLeft_any (hI2.dn _)))
    | (go_at_call 18; exact Calls.quiet_of_same (rEnd_any (hr2.dn _)))
    | (go_at_call 19; exact Calls.quiet_of (inEnd_any (hI2.dn _))))
  go_wp2
  go_ret
  exact ⟨by simp, hr2.dn nq, hI2.dn nq, hT2.post (grown_dn (grown_ref _ _) nq)⟩
set_option maxRecDepth 10000 in
set_option maxHeartbeats 4000000 in
theorem reads_4 {W : World} {rb ib : Nat} {D E : Option Nat} {s : Option (List Int)} (n : Int) (hn : 0 ≤ n ∧ n ≤ 255) (hr : n % 6 = 4) (hne : rb ≠ ib) (hD : D ≠ some rb) (hD' : D ≠ some ib) (hE : E ≠ some ib) (hE' : E ≠ some rb) (hDl : ∀ d, D = some d → d < W.heap.size) (hEl : ∀ d, E = some d → d < W.heap.size) (hR : RdAt W rb D s) (hI : InAt W ib E s) :
    Calls Try.prog 16 #[.pointer (some ⟨rb, 0, none⟩), .pointer (some ⟨ib, 0, none⟩), .int .u8 n] W fun e w' => e = .returned (.bool true) ∧ RdAt w' rb D (nS s).2 ∧ InAt w' ib E (nS s).2 ∧ Two W w' rb ib := by
  have hlim := byteS_lim hR.rng
  have hbl := hR.lt
  have hil := hI.lt
  have heq := eq_num
  have hes : ∀ a b c d, eq4 a b c d a b c d = true := fun a b c d => eq4_true.2 ⟨rfl, rfl, rfl, rfl⟩
  go_enter Try.func16, Try.ntmps16
  go_wp2_with (first
    | (go_at_call 34; refine (rNum_any hD hDl hR).mono ?_; rintro e w1 ⟨z0, z1, z2, z3, rfl, hz, hv, hr1, hg1⟩; have hI1 := hI.kept hg1 (by simp; omega) (.inr hE'))
    | (go_at_call 44; refine (inNum_any hE (fun d hd => Nat.lt_of_lt_of_le (hEl d hd) hg1.size) hI1).mono ?_; rintro e w2 ⟨y0, y1, y2, y3, rfl, hy, hu, hI2', hg2⟩; obtain ⟨rfl, rfl, rfl, rfl⟩ := val_inj hz hy (hv.out.trans hu.out.symm); have hr2' := hr1.kept hg2 (by simp; omega) (.inr hD'); have hT2' := two_of hg1 hg2; have hgA := World.grownBy.trans (World.grownBy_alloc w2 (.cells #[.int .u64 z0, .int .u64 z1, .int .u64 z2, .int .u64 z3] 33) none) (World.grownBy_alloc _ (.cells #[.int .u64 z0, .int .u64 z1, .int .u64 z2, .int .u64 z3] 33) none); have hr2 := hr2'.nn hgA; have hI2 := hI2'.nn hgA; have hT2 := hT2'.post hgA; clear hr2' hI2' hT2' hgA))
  have hcb := hI2.bad
  go_quiet (first
    | (go_at_call 17; exact Calls.quiet_of_same (rBad_any (hr2.dn _)))
    | (go_at_call 22; exact Calls.quiet_of_same (rLeft_any (hr2.dn _)))
    | (go_at_call 47; exact Calls.quiet_of (inLeft_any (hI2.dn _)))
    | (go_at_call 18; exact Calls.quiet_of_same (rEnd_any (hr2.dn _)))
    | (go_at_call 19; exact Calls.quiet_of (inEnd_any (hI2.dn _))))
  go_wp2
  go_ret
  exact ⟨by simp, hr2.dn nq, hI2.dn nq, hT2.post (grown_dn (grown_ref _ _) nq)⟩
set_option maxRecDepth 10000 in
set_option maxHeartbeats 4000000 in
theorem reads_5 {W : World} {rb ib : Nat} {D E : Option Nat} {s s5 : Option (List Int)} (n : Int) (hn : 0 ≤ n ∧ n ≤ 255) (hr : n % 6 = 5) (hne : rb ≠ ib) (hD : D ≠ some rb) (hD' : D ≠ some ib) (hE : E ≠ some ib) (hE' : E ≠ some rb) (hDl : ∀ d, D = some d → d < W.heap.size) (hEl : ∀ d, E = some d → d < W.heap.size) (hR : RdAt W rb D s) (hI : InAt W ib E s) {L : List Cn} (hLl : L.length ≤ 1048576) (hRC : RCo s L s5) (hIC : ICo s L s5) :
    Calls Try.prog 16 #[.pointer (some ⟨rb, 0, none⟩), .pointer (some ⟨ib, 0, none⟩), .int .u8 n] W fun e w' => e = .returned (.bool true) ∧ RdAt w' rb D s5 ∧ InAt w' ib E s5 ∧ Two W w' rb ib := by
  have hlim := byteS_lim hR.rng
  have hbl := hR.lt
  have hil := hI.lt
  go_enter Try.func16, Try.ntmps16
  go_wp2_with (first
    | (go_at_call 20; refine (hRC _ _ _ hD hDl hR).mono ?_; rintro e w1 ⟨u1, rfl, ho1, hr1, hg1⟩; have hI1 := hI.kept hg1 (by simp; omega) (.inr hE'))
    | (go_at_call 45; refine (hIC _ _ _ hE (fun d hd => Nat.lt_of_lt_of_le (hEl d hd) hg1.size) hI1).mono ?_; rintro e w2 ⟨u2, rfl, ho2, hI2', hg2⟩; have hr2' := hr1.kept hg2 (by simp; omega) (.inr hD'); have hT2' := two_of hg1 hg2; have ho1' := ho1.kept hg2 (by cases he : u1.ownBlock with | none => exact .inl rfl | some g => (right; intro e2; have := ho1.lt g he; simp at e2; omega)); have hc1 := own_coins ho1' hLl; have hc2 := own_coins ho2 hLl)
    | (go_at_call 46; refine (sameC_any _ hc1 hc2).mono ?_; rintro e w3 ⟨rfl, hb3⟩; have hr2 := hr2'.nn (grown_none hb3); have hI2 := hI2'.nn (grown_none hb3); have hT2 := hT2'.post (grown_none hb3)))
  have hcb := hI2.bad
  go_quiet (first
    | (go_at_call 17; exact Calls.quiet_of_same (rBad_any (hr2.dn _)))
    | (go_at_call 22; exact Calls.quiet_of_same (rLeft_any (hr2.dn _)))
    | (go_at_call 47; exact Calls.quiet_of (inLeft_any (hI2.dn _)))
    | (go_at_call 18; exact Calls.quiet_of_same (rEnd_any (hr2.dn _)))
    | (go_at_call 19; exact Calls.quiet_of (inEnd_any (hI2.dn _))))
  go_wp2
  go_ret
  exact ⟨by simp, hr2.dn nq, hI2.dn nq, hT2.post (grown_dn (grown_ref _ _) nq)⟩

theorem reads_any {W : World} {rb ib : Nat} {D E : Option Nat} {s s5 : Option (List Int)} {L : List Cn} (n : Int) (hn : 0 ≤ n ∧ n ≤ 255) (hne : rb ≠ ib) (hD : D ≠ some rb) (hD' : D ≠ some ib) (hE : E ≠ some ib) (hE' : E ≠ some rb) (hDl : ∀ d, D = some d → d < W.heap.size) (hEl : ∀ d, E = some d → d < W.heap.size) (hR : RdAt W rb D s) (hI : InAt W ib E s) (hLl : L.length ≤ 1048576) (hRC : RCo s L s5) (hIC : ICo s L s5) :
    Calls Try.prog 16 #[.pointer (some ⟨rb, 0, none⟩), .pointer (some ⟨ib, 0, none⟩), .int .u8 n] W fun e w' => e = .returned (.bool true) ∧ RdAt w' rb D (rdS s s5 (n % 6)) ∧ InAt w' ib E (rdS s s5 (n % 6)) ∧ Two W w' rb ib := by
  rcases (show n % 6 = 0 ∨ n % 6 = 1 ∨ n % 6 = 2 ∨ n % 6 = 3 ∨ n % 6 = 4 ∨ n % 6 = 5 by omega) with h | h | h | h | h | h
  · rw [h]; exact reads_0 n hn h hne hD hD' hE hE' hDl hEl hR hI
  · rw [h]; exact reads_1 n hn h hne hD hD' hE hE' hDl hEl hR hI
  · rw [h]; exact reads_2 n hn h hne hD hD' hE hE' hDl hEl hR hI
  · rw [h]; exact reads_3 n hn h hne hD hD' hE hE' hDl hEl hR hI
  · rw [h]; exact reads_4 n hn h hne hD hD' hE hE' hDl hEl hR hI
  · rw [h]; exact reads_5 n hn h hne hD hD' hE hE' hDl hEl hR hI hLl hRC hIC
end Go.Proofs.Ytoikklbnbgoecaa
