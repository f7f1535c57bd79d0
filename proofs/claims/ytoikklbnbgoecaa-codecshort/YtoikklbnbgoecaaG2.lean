
/- codec's reader: bytes and numbers. -/
import Derived.Test.YtoikklbnbgoecaaG1
set_option linter.unusedSimpArgs false
set_option linter.unusedVariables false
namespace Go.Proofs.Ytoikklbnbgoecaa
open Go.RowKit

def takeS (s : Option (List Int)) (n : Nat) : List Int × Option (List Int) := match s with
  | none => ([], none)
  | some p => if n ≤ p.length then (p.take n, some (p.drop n)) else ([], none)
theorem byt_nil (W : World) (D : Option Nat) : Byt W D (.slice none 0 0) [] := ⟨none, 0, rfl, Nat.le_refl _, by simp, by simp, .inl rfl⟩

theorem Byt.take {W : World} {D : Option Nat} {n cap : Nat} {a : Option Addr} {p : List Int} (h : Byt W D (.slice a p.length cap) p) (hn : n ≤ p.length) : Byt W D (.slice a n n) (p.take n) := by
  obtain ⟨a', cap', e, h1, h2, h3, h4⟩ := h
  simp at e
  obtain ⟨rfl, rfl⟩ := e
  have hl : (p.take n).length = n := by simp; omega
  refine ⟨a, n, by rw [hl], by rw [hl]; exact Nat.le_refl _, by rw [hl]; omega, fun x hx => h3 x (List.mem_of_mem_take hx), ?_⟩
  rcases h4 with rfl | ⟨d, off, hd, rfl, h5, h6⟩
  · left; simp
  · refine .inr ⟨d, off, hd, rfl, h5, fun i x hi => h6 i x ?_⟩
    have : i < n := by have := (List.getElem?_eq_some_iff.1 hi).1; omega
    rwa [List.getElem?_take_of_lt this] at hi
theorem Byt.drop {W : World} {D : Option Nat} {n cap : Nat} {a : Option Addr} {p : List Int} (h : Byt W D (.slice a p.length cap) p) (hn : n ≤ p.length) : Byt W D (.slice (Option.map (fun x => x.add n) a) (p.length - n) (cap - n)) (p.drop n) := by
  obtain ⟨a', cap', e, h1, h2, h3, h4⟩ := h
  simp at e
  obtain ⟨rfl, rfl⟩ := e
  refine ⟨_, _, by rw [List.length_drop], by simp; omega, by simp; omega, fun x hx => h3 x (List.mem_of_mem_drop hx), ?_⟩
  rcases h4 with rfl | ⟨d, off, hd, rfl, h5, h6⟩
  · left; simp
  · refine .inr ⟨d, off + n, hd, ?_, h5, fun i x hi => ?_⟩
    · simp only [Option.map_some, Option.some.injEq]
      unfold Addr.add; split
      · subst_vars; rfl
      · rfl
    · rw [List.getElem?_drop] at hi
      rw [← h6 _ x hi]; congr 2; omega
theorem Byt.drop0 {W : World} {D : Option Nat} {n : Nat} {a : Option Addr} {p : List Int} (h : Byt W D (.slice a p.length n) p) (hn : n ≤ p.length) : Byt W D (.slice a (p.length - n) 0) (p.drop n) := by
  obtain ⟨a', cap', e, h1, h2, h3, h4⟩ := h
  simp at e
  obtain ⟨rfl, rfl⟩ := e
  have e : p.drop n = [] := by rw [List.drop_eq_nil_iff]; exact h1
  rw [e, show p.length - n = 0 by omega]
  exact ⟨a, 0, rfl, Nat.le_refl _, by simp, by simp, .inl rfl⟩
theorem grown_set0 (W : World) (b : Nat) (v : Value) : W.grownBy (W.setCell ⟨b, 0, none⟩ v) (some b) := grown_se (grown_ref _ _) _ _

set_option maxHeartbeats 2000000 in
theorem rTake_any {W : World} {b : Nat} {D : Option Nat} {s : Option (List Int)} (n : Nat) (hn : n ≤ 1048576) (hD : D ≠ some b) (h : RdAt W b D s) :
    Calls Try.prog 53 #[.pointer (some ⟨b, 0, none⟩), .int .i64 (n : Int)] W fun e w' => ∃ u, e = .returned u ∧ Byt w' D u (takeS s n).1 ∧ RdAt w' b D (takeS s n).2 ∧ W.grownBy w' (some b) := by
  cases s with
  | none =>
    go_enter Try.func53, Try.ntmps53
    go_wp2_with (go_at_call 17; refine (rBad_any h).mono ?_; rintro e w' ⟨rfl, rfl⟩)
    go_ret
    exact ⟨_, rfl, byt_nil _ _, h, grown_ref _ _⟩
  | some p =>
    have h' := h
    obtain ⟨v, h, a, cap, rfl, h1, h2, h3, h4⟩ := h
    obtain ⟨c, f⟩ := cells_of_block h
    by_cases hl : n ≤ p.length
    · have hl1 : ¬ (p.length : Int) < (n : Int) := by omega
      have hl2 : (n : Int) ≤ (p.length : Int) := by omega
      have hl3 : (n : Int) ≤ (cap : Int) := by omega
      have hB : Byt W D (.slice a p.length cap) p := ⟨a, cap, rfl, h1, h2, h3, h4⟩
      rw [takeS, if_pos hl]
      by_cases hcn : cap = n
      · subst hcn
        have hg := grown_set0 W b (.slice a (p.length - cap) 0)
        have hfin : Byt (W.setCell ⟨b, 0, none⟩ (.slice a (p.length - cap) 0)) D (.slice a cap cap) (p.take cap) ∧ RdAt (W.setCell ⟨b, 0, none⟩ (.slice a (p.length - cap) 0)) b D (some (p.drop cap)) :=
          ⟨(hB.take hl).kept hg (.inr hD), _, by rw [block_set _ h]; rfl, (hB.drop0 hl).kept hg (.inr hD)⟩
        rw [show p.length - cap = 0 by omega] at hfin hg
        clear h4 hB
        go_enter Try.func53, Try.ntmps53
        go_wp2_with (go_at_call 17; refine (rBad_any h').mono ?_; rintro e w' ⟨rfl, rfl⟩)
        go_ret
        exact ⟨_, rfl, hfin.1, hfin.2, hg⟩
      · have hg := grown_set0 W b (.slice (Option.map (fun x => x.add n) a) (p.length - n) (cap - n))
        have hfin : Byt (W.setCell ⟨b, 0, none⟩ (.slice (Option.map (fun x => x.add n) a) (p.length - n) (cap - n))) D (.slice a n n) (p.take n) ∧ RdAt (W.setCell ⟨b, 0, none⟩ (.slice (Option.map (fun x => x.add n) a) (p.length - n) (cap - n))) b D (some (p.drop n)) :=
          ⟨(hB.take hl).kept hg (.inr hD), _, by rw [block_set _ h]; rfl, (hB.drop hl).kept hg (.inr hD)⟩
        clear h4 hB
        go_enter Try.func53, Try.ntmps53
        go_wp2_with (go_at_call 17; refine (rBad_any h').mono ?_; rintro e w' ⟨rfl, rfl⟩)
        go_ret
        exact ⟨_, rfl, hfin.1, hfin.2, hg⟩
    · have hl1 : (p.length : Int) < (n : Int) := by omega
      go_enter Try.func53, Try.ntmps53
      go_wp2_with (first | (go_at_call 17; refine (rBad_any h').mono ?_; rintro e w' ⟨rfl, rfl⟩) | (go_at_call 23; refine (rFail_any h').mono ?_; rintro e w1 ⟨rfl, hr, hg⟩))
      go_ret
      rw [takeS, if_neg hl]
      exact ⟨_, rfl, byt_nil _ _, hr, hg⟩

theorem takeS_len (s : Option (List Int)) (n : Nat) : (takeS s n).1.length ≤ n := by
  unfold takeS; split
  · simp
  · split
    · simp; omega
    · simp
theorem p256_le {a b : Nat} (h : a ≤ b) : (256 : Int) ^ a ≤ 256 ^ b := by
  obtain ⟨d, rfl⟩ := Nat.exists_eq_add_of_le h
  rw [Int.pow_add]
  have h1 : (0 : Int) < 256 ^ a := Int.pow_pos (by decide)
  have h2 : (0 : Int) < 256 ^ d := Int.pow_pos (by decide)
  have := Int.mul_le_mul_of_nonneg_left (show (1 : Int) ≤ 256 ^ d by omega) (Int.le_of_lt h1)
  omega
theorem rd_lim8 {q : List Int} (hl : q.length ≤ 8) (hb : ∀ x ∈ q, 0 ≤ x ∧ x ≤ 255) : 0 ≤ rd q ∧ rd q < 18446744073709551616 := by
  have h := rd_nonneg q.length q rfl hb
  have h2 := p256_le hl
  have h3 : (256 : Int) ^ 8 = 18446744073709551616 := by decide
  exact ⟨h.1, by omega⟩

set_option maxHeartbeats 4000000 in
theorem rNumber_any {W : World} {b : Nat} {D : Option Nat} {s : Option (List Int)} (n : Nat) (hn : n ≤ 8) (hD : D ≠ some b) (h : RdAt W b D s) :
    Calls Try.prog 50 #[.pointer (some ⟨b, 0, none⟩), .int .i64 (n : Int)] W fun e w' => e = .returned (.int .u64 (rd (takeS s n).1)) ∧ RdAt w' b D (takeS s n).2 ∧ W.grownBy w' (some b) := by
  have hl := takeS_len s n
  have hT := rTake_any n (by omega) hD h
  generalize (takeS s n).1 = q at *
  generalize (takeS s n).2 = s' at *
  go_enter Try.func50, Try.ntmps50
  go_wp2_with (go_at_call 53; refine hT.mono ?_; rintro e w1 ⟨u, rfl, hB, hr, hg⟩; obtain ⟨a, cap, rfl, h1, h2, h3, h4⟩ := hB)
  have hq8 : (q.length : Int) ≤ 8 := by omega
  go_loop [5, 12] (fun v i => ∃ k : Nat, k ≤ q.length ∧ i = .int .i64 k ∧ v = .int .u64 (rd (q.take k))) (fun _ i => q.length - (intOf i).toNat)
  case atStart => exact ⟨0, by omega, rfl, rfl⟩
  case round =>
    obtain ⟨k, hk, rfl, rfl⟩ := hrel
    by_cases hlt : k < q.length
    · obtain ⟨d, off, hd', rfl, h5, h6⟩ := h4.resolve_left (fun e => by subst e; simp at hlt)
      have hc := h6 k q[k] (by simp [hlt])
      have hx := h3 q[k] (List.getElem_mem hlt)
      have hR := rd_nonneg (q.take k).length (q.take k) rfl (fun x hx => h3 x (List.mem_of_mem_take hx))
      have hR2 : rd (q.take k) < 72057594037927936 := by
        have h2 := p256_le (a := (q.take k).length) (b := 7) (by simp; omega)
        have h3 : (256 : Int) ^ 7 = 72057594037927936 := by decide
        omega
      have hnx : rd (q.take (k + 1)) = rd (q.take k) * 256 + q[k] := by rw [List.take_succ_eq_append_getElem hlt, rd_snoc]
      have hlt' : (k : Int) < (q.length : Int) := by omega
      have hR1 := hR.1
      clear hR h6 h3 h4
      generalize rd (q.take k) = R at *
      generalize hxx : q[k] = x at *
      have hor : bits .or .u64 (R * 256) x = R * 256 + x := by
        have := or_byte (a := R * 256) (b := x) (s := 0) (by omega) (by omega) (by show R * 256 % 256 = 0; omega) hx
        simpa using this
      have hw : IntKind.u64.wrap (R * 256) = R * 256 := by rw [IntKind.wrap_u64]; omega
      have hw2 : IntKind.u64.wrap (R * 256 + x) = R * 256 + x := by rw [IntKind.wrap_u64]; omega
      go_wp2
      all_goals go_round
      case rel => exact ⟨k + 1, by omega, by go_num, by rw [hnx]⟩
      case measure => (simp [intOf]; omega)
    · have e : k = q.length := by omega
      subst e
      go_wp2
      go_ret
      exact ⟨rfl, hr, hg⟩

def Rng (s : Option (List Int)) : Prop := ∀ p, s = some p → ∀ x ∈ p, 0 ≤ x ∧ x ≤ 255
theorem RdAt.rng {W : World} {b : Nat} {D : Option Nat} {s : Option (List Int)} (h : RdAt W b D s) : Rng s := by
  rintro p rfl x hx
  obtain ⟨v, -, a, cap, -, -, -, h3, -⟩ := h
  exact h3 x hx
theorem takeS_rng {s : Option (List Int)} (h : Rng s) (n : Nat) : ∀ x ∈ (takeS s n).1, 0 ≤ x ∧ x ≤ 255 := by
  unfold takeS; split
  · simp
  · rename_i p; split
    · exact fun x hx => h p rfl x (List.mem_of_mem_take hx)
    · simp
theorem takeS_lim {s : Option (List Int)} (h : Rng s) (n : Nat) : 0 ≤ rd (takeS s n).1 ∧ rd (takeS s n).1 < 256 ^ n := by
  have h1 := rd_nonneg _ _ rfl (takeS_rng h n)
  have h2 := p256_le (takeS_len s n)
  exact ⟨h1.1, by omega⟩
def byteS (s : Option (List Int)) : Int × Option (List Int) := (rd (takeS s 1).1, (takeS s 1).2)
theorem byteS_lim {s : Option (List Int)} (h : Rng s) : 0 ≤ (byteS s).1 ∧ (byteS s).1 ≤ 255 := by
  have := takeS_lim h 1
  have e : (256 : Int) ^ 1 = 256 := by decide
  exact ⟨this.1, by show rd _ ≤ 255; omega⟩
set_option maxHeartbeats 1000000 in
theorem rByte_any {W : World} {b : Nat} {D : Option Nat} {s : Option (List Int)} (hD : D ≠ some b) (h : RdAt W b D s) :
    Calls Try.prog 26 #[.pointer (some ⟨b, 0, none⟩)] W fun e w' => e = .returned (.int .u8 (byteS s).1) ∧ RdAt w' b D (byteS s).2 ∧ W.grownBy w' (some b) := by
  have hl := byteS_lim h.rng
  have hT : Calls Try.prog 50 #[.pointer (some ⟨b, 0, none⟩), .int .i64 1] W fun e w' => e = .returned (.int .u64 (byteS s).1) ∧ RdAt w' b D (byteS s).2 ∧ W.grownBy w' (some b) := rNumber_any 1 (by omega) hD h
  generalize (byteS s).1 = x at *
  generalize (byteS s).2 = s' at *
  have hw : IntKind.u8.wrap x = x := by rw [IntKind.wrap_u8]; omega
  go_enter Try.func26, Try.ntmps26
  go_wp2_with (go_at_call 50; refine hT.mono ?_; rintro e w1 ⟨rfl, hr, hg⟩)
  go_ret
  exact ⟨rfl, hr, hg⟩
def numS (s : Option (List Int)) (n : Nat) : Int × Option (List Int) := (rd (takeS s n).1, (takeS s n).2)
set_option maxHeartbeats 1000000 in
theorem rShort_any {W : World} {b : Nat} {D : Option Nat} {s : Option (List Int)} (hD : D ≠ some b) (h : RdAt W b D s) :
    Calls Try.prog 32 #[.pointer (some ⟨b, 0, none⟩)] W fun e w' => e = .returned (.int .u16 (numS s 2).1) ∧ RdAt w' b D (numS s 2).2 ∧ W.grownBy w' (some b) := by
  have hl : 0 ≤ (numS s 2).1 ∧ (numS s 2).1 < 256 ^ 2 := takeS_lim h.rng 2
  rw [show (256 : Int) ^ 2 = 65536 by decide] at hl
  have hT : Calls Try.prog 50 #[.pointer (some ⟨b, 0, none⟩), .int .i64 2] W fun e w' => e = .returned (.int .u64 (numS s 2).1) ∧ RdAt w' b D (numS s 2).2 ∧ W.grownBy w' (some b) := rNumber_any 2 (by omega) hD h
  generalize (numS s 2).1 = x at *
  generalize (numS s 2).2 = s' at *
  have hw : IntKind.u16.wrap x = x := by rw [IntKind.wrap_u16]; omega
  go_enter Try.func32, Try.ntmps32
  go_wp2_with (go_at_call 50; refine hT.mono ?_; rintro e w1 ⟨rfl, hr, hg⟩)
  go_ret
  exact ⟨rfl, hr, hg⟩
set_option maxHeartbeats 1000000 in
theorem rLong_any {W : World} {b : Nat} {D : Option Nat} {s : Option (List Int)} (hD : D ≠ some b) (h : RdAt W b D s) :
    Calls Try.prog 33 #[.pointer (some ⟨b, 0, none⟩)] W fun e w' => e = .returned (.int .u64 (numS s 8).1) ∧ RdAt w' b D (numS s 8).2 ∧ W.grownBy w' (some b) := by
  have hT : Calls Try.prog 50 #[.pointer (some ⟨b, 0, none⟩), .int .i64 8] W fun e w' => e = .returned (.int .u64 (numS s 8).1) ∧ RdAt w' b D (numS s 8).2 ∧ W.grownBy w' (some b) := rNumber_any 8 (by omega) hD h
  generalize (numS s 8).1 = x at *
  generalize (numS s 8).2 = s' at *
  go_enter Try.func33, Try.ntmps33
  go_wp2_with (go_at_call 50; refine hT.mono ?_; rintro e w1 ⟨rfl, hr, hg⟩)
  go_ret
  exact ⟨rfl, hr, hg⟩
def flagS (s : Option (List Int)) : Bool × Option (List Int) := if 1 < (byteS s).1 then (false, none) else ((byteS s).1 == 1, (byteS s).2)
set_option maxHeartbeats 1000000 in
theorem rFlag_any {W : World} {b : Nat} {D : Option Nat} {s : Option (List Int)} (hD : D ≠ some b) (h : RdAt W b D s) :
    Calls Try.prog 31 #[.pointer (some ⟨b, 0, none⟩)] W fun e w' => e = .returned (.bool (flagS s).1) ∧ RdAt w' b D (flagS s).2 ∧ W.grownBy w' (some b) := by
  have hl := byteS_lim h.rng
  have hT := rByte_any hD h
  unfold flagS
  generalize (byteS s).1 = x at *
  generalize (byteS s).2 = s' at *
  by_cases h1 : 1 < x
  · rw [if_pos h1]
    have hx1 : (x == 1) = false := by rw [beq_eq_false_iff_ne]; omega
    go_enter Try.func31, Try.ntmps31
    go_wp2_with (first | (go_at_call 26; refine hT.mono ?_; rintro e w1 ⟨rfl, hr, hg⟩) | (go_at_call 23; refine (rFail_any hr).mono ?_; rintro e w2 ⟨rfl, hr2, hg2⟩))
    go_ret
    exact ⟨by simp, hr2, grown_tr hg hg2⟩
  · rw [if_neg h1]
    go_enter Try.func31, Try.ntmps31
    go_wp2_with (first | (go_at_call 26; refine hT.mono ?_; rintro e w1 ⟨rfl, hr, hg⟩))
    go_ret
    exact ⟨by simp, hr, hg⟩
end Go.Proofs.Ytoikklbnbgoecaa
