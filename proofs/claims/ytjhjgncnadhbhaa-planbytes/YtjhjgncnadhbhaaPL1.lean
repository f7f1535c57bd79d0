
/- Periods and plans held against each other: plan.Same. -/
import Derived.Test.YtjhjgncnadhbhaaPA
set_option linter.unusedSimpArgs false
set_option linter.unusedVariables false
set_option maxRecDepth 20000
namespace Go.Proofs.Ytjhjgncnadhbhaa
open Go.RowKit

/-- A period: its length, its coins as they lie, what they are. -/
structure Pd where
  n : Int
  v : Value
  l : List Cn
def PdAt (W : World) (blk o : Nat) (x : Pd) : Prop := W.cell? ⟨blk, o, none⟩ = some (.int .u64 x.n) ∧ W.cell? ⟨blk, o + 1, none⟩ = some x.v ∧ IsCL W x.v x.l
/-- A slice's value that is a list of periods in a world. -/
def IsPds (W : World) (v : Value) (l : List Pd) : Prop :=
  (l = [] ∧ ∃ a cap, v = .slice a 0 cap) ∨ ∃ blk off cap, v = .slice (some ⟨blk, off, none⟩) l.length cap ∧ l ≠ [] ∧ l.length ≤ 9223372036854775807 ∧ blk < W.heap.size ∧ ∀ i x, l[i]? = some x → PdAt W blk (off + i * 2) x
theorem PdAt.below {W W' : World} {blk o : Nat} {x : Pd} (h : PdAt W blk o x) (hlt : blk < W.heap.size) (hb : Below W.heap.size W W') : PdAt W' blk o x :=
  ⟨(hb.cell (p := ⟨blk, _, none⟩) hlt).trans h.1, (hb.cell (p := ⟨blk, _, none⟩) hlt).trans h.2.1, h.2.2.below hb⟩
theorem IsPds.below {W W' : World} {v : Value} {l : List Pd} (h : IsPds W v l) (hb : Below W.heap.size W W') : IsPds W' v l := by
  rcases h with h | ⟨blk, off, cap, hv, hne, hlen, hlt, hall⟩
  · exact .inl h
  · exact .inr ⟨blk, off, cap, hv, hne, hlen, Nat.lt_of_lt_of_le hlt hb.size, fun i x hi => (hall i x hi).below hlt hb⟩
theorem IsPds.slice {W : World} {v : Value} {l : List Pd} (h : IsPds W v l) : ∃ a cap, v = .slice a l.length cap := by
  rcases h with ⟨rfl, a, cap, rfl⟩ | ⟨blk, off, cap, hv, _⟩
  · exact ⟨a, cap, rfl⟩
  · exact ⟨_, _, hv⟩
def pdB (x y : Pd) : Bool := x.n == y.n && clB x.l y.l
def plB : List Pd → List Pd → Bool
  | [], [] => true
  | x :: p, y :: q => pdB x y && plB p q
  | _, _ => false
theorem plB_len : ∀ {p q : List Pd}, p.length ≠ q.length → plB p q = false
  | [], [], h => absurd rfl h
  | [], _ :: _, _ => rfl
  | _ :: _, [], _ => rfl
  | x :: p, y :: q, h => by simp [plB, plB_len (p := p) (q := q) (by simpa using h)]
theorem plB_self : ∀ p : List Pd, plB p p = true
  | [] => rfl
  | x :: p => by simp [plB, pdB, clB_self, plB_self p]
theorem plB_cons {p q : List Pd} {k : Nat} (hp : k < p.length) (hq : k < q.length) : plB (p.drop k) (q.drop k) = (pdB p[k] q[k] && plB (p.drop (k + 1)) (q.drop (k + 1))) := by
  rw [List.drop_eq_getElem_cons hp, List.drop_eq_getElem_cons hq]; rfl
set_option maxHeartbeats 4000000 in
theorem samePd_any {W : World} {x y : Pd} (hx : IsCL W x.v x.l) (hy : IsCL W y.v y.l) :
    Calls Try.prog 54 #[.agg #[.int .u64 x.n, x.v], .agg #[.int .u64 y.n, y.v]] W fun e w' => e = .returned (.bool (pdB x y)) ∧ Below W.heap.size W w' := by
  obtain ⟨n, v, l⟩ := x
  obtain ⟨n', v', l'⟩ := y
  simp only at hx hy ⊢
  obtain ⟨a, c, rfl⟩ := hx.slice
  obtain ⟨a', c', rfl⟩ := hy.slice
  have hb : Below W.heap.size W ((W.alloc (.cells #[.int .u64 n, .slice a l.length c] 71)).alloc (.cells #[.int .u64 n', .slice a' l'.length c'] 71)) := ba (ba (Below.refl _ _) _) _
  have hE := equalCL_any _ (hx.below hb) (hy.below hb)
  by_cases hn : n = n'
  · subst hn
    have hp : Hid (pdB ⟨n, .slice a l.length c, l⟩ ⟨n, .slice a' l'.length c', l'⟩ = clB l l') := by unfold Hid; simp [pdB]
    go_enter Try.func54, Try.ntmps54
    go_wp2_with (go_at_call 52; refine hE.mono ?_; rintro e w1 ⟨rfl, hb1⟩)
    go_ret
    rw [hp.out]
    exact ⟨by simp, bt hb hb1⟩
  · have hp : Hid (pdB ⟨n, .slice a l.length c, l⟩ ⟨n', .slice a' l'.length c', l'⟩ = false) := by unfold Hid; simp [pdB, hn]
    have hd : (n == n') = false := by simpa using hn
    clear hE
    go_enter Try.func54, Try.ntmps54
    go_wp2
    go_ret
    rw [hp.out]
    exact ⟨by simp, hb⟩
set_option maxRecDepth 10000 in
set_option maxHeartbeats 8000000 in
theorem equalPd_some (g h o u c d : Nat) (p q : List Pd) (hlen : p.length ≤ 9223372036854775807) (hpq : p.length = q.length) (W : World) (hg : g < W.heap.size) (hh : h < W.heap.size)
    (hp : ∀ i x, p[i]? = some x → PdAt W g (o + i * 2) x) (hq : ∀ i x, q[i]? = some x → PdAt W h (u + i * 2) x) :
    Calls Try.prog 53 #[.slice (some ⟨g, o, none⟩) p.length c, .slice (some ⟨h, u, none⟩) p.length d, .func (.func 54) #[] #[]] W fun e w' => e = .returned (.bool (plB p q)) ∧ Below W.heap.size W w' := by
  have hpq' : Hid _ := hpq
  clear hpq
  have hlen' : (p.length : Int) ≤ 9223372036854775807 := by omega
  go_enter Try.func53, Try.ntmps53
  go_wp2
  go_loopw [17] (fun iv X => ∃ (i : Nat), i ≤ p.length ∧ iv = .int .i64 (i : Int) ∧ Hid (plB p q = plB (p.drop i) (q.drop i)) ∧ Below W.heap.size W X) (fun iv _ => p.length - (intOf iv).toNat)
  case atStart => exact ⟨0, by omega, rfl, by unfold Hid; simp, Below.refl _ _⟩
  case round =>
    obtain ⟨i, hi, rfl, hc, hX⟩ := hrel
    by_cases hlt : i < p.length
    · have hlt' : (i : Int) < (p.length : Int) := by omega
      have hiq : i < q.length := by have := hpq'.out; omega
      have hxA := hp i p[i] (List.getElem?_eq_getElem hlt)
      have hyA := hq i q[i] (List.getElem?_eq_getElem hiq)
      obtain ⟨d0, d1, hxc⟩ := hxA.below hg hX
      obtain ⟨e0, e1, hyc⟩ := hyA.below hh hX
      have hc2 : Hid (plB p q = (pdB p[i] q[i] && plB (p.drop (i + 1)) (q.drop (i + 1)))) := by unfold Hid; rw [hc.out, plB_cons hlt hiq]
      have hC : Hid (∀ X, Below wr.heap.size wr X → Calls Try.prog 54 #[.agg #[.int .u64 p[i].n, p[i].v], .agg #[.int .u64 q[i].n, q[i].v]] X fun e w' => e = .returned (.bool (pdB p[i] q[i])) ∧ Below X.heap.size X w') := fun X hX => samePd_any (hxc.below hX) (hyc.below hX)
      have hgX : g < wr.heap.size := Nat.lt_of_lt_of_le hg hX.size
      have hhX : h < wr.heap.size := Nat.lt_of_lt_of_le hh hX.size
      obtain ⟨a1, c1, ev1⟩ := hxc.slice
      obtain ⟨a2, c2, ev2⟩ := hyc.slice
      rw [ev1] at d1 hC
      rw [ev2] at e1 hC
      have hBox : Below wr.heap.size wr (wr.alloc (.cells #[.int .u64 p[i].n, .slice a1 p[i].l.length c1] 71)) := ba (Below.refl _ _) _
      have f0 := (hBox.cell (p := ⟨h, u + i * 2, none⟩) hhX).trans e0
      have f1 := (hBox.cell (p := ⟨h, u + i * 2 + 1, none⟩) hhX).trans e1
      clear hxA hyA hp hq hc ev1 ev2 hxc hyc
      cases hb : pdB p[i] q[i]
      · rw [hb] at hC hc2
        have hc3 : Hid (plB p q = false) := by unfold Hid; rw [hc2.out]; rfl
        clear hb hc2
        go_wp2_with (go_at_call 54; refine (hC.out _ (ba (ba (Below.refl _ _) _) _)).mono ?_; rintro e w3 ⟨rfl, hb3⟩)
        go_ret
        exact ⟨congrArg (fun b => Ending.returned (.bool b)) hc3.out.symm, bt (ba (ba hX _) _) hb3⟩
      · rw [hb] at hC hc2
        have hc3 : Hid (plB p q = plB (p.drop (i + 1)) (q.drop (i + 1))) := by unfold Hid; rw [hc2.out]; rfl
        clear hb hc2
        go_wp2_with (go_at_call 54; refine (hC.out _ (ba (ba (Below.refl _ _) _) _)).mono ?_; rintro e w3 ⟨rfl, hb3⟩)
        all_goals go_roundw
        case rel => exact ⟨i + 1, by omega, by go_num, hc3, bt (ba (ba hX _) _) hb3⟩
        case measure => (simp [intOf]; omega)
    · obtain rfl : i = p.length := by omega
      have hc3 : Hid (plB p q = true) := by unfold Hid; rw [hc.out, List.drop_length, List.drop_of_length_le (by have := hpq'.out; omega)]; rfl
      clear hc
      go_wp2
      go_ret
      exact ⟨congrArg (fun b => Ending.returned (.bool b)) hc3.out.symm, hX⟩
set_option maxHeartbeats 1000000 in
theorem equalPd_nil (a b : Option Addr) (c d : Nat) (f : Value) (w : World) :
    Calls Try.prog 53 #[.slice a 0 c, .slice b 0 d, f] w fun e w' => e = .returned (.bool true) ∧ Below w.heap.size w w' := by
  go_enter Try.func53, Try.ntmps53
  go_wp2
  apply wp_loop_rounds 1
  simp only [Code.rounds]
  go_wp2
  go_ret
  exact ⟨rfl, Below.refl _ _⟩
set_option maxHeartbeats 1000000 in
theorem equalPd_len (a b : Option Addr) (m n c d : Nat) (f : Value) (h : m ≠ n) (w : World) :
    Calls Try.prog 53 #[.slice a m c, .slice b n d, f] w fun e w' => e = .returned (.bool false) ∧ Below w.heap.size w w' := by
  have h' : ¬ (m : Int) = (n : Int) := by omega
  go_enter Try.func53, Try.ntmps53
  go_wp2
  go_ret
  exact ⟨rfl, Below.refl _ _⟩
theorem equalPd_any {va vb : Value} {p q : List Pd} (w : World) (hA : IsPds w va p) (hB : IsPds w vb q) :
    Calls Try.prog 53 #[va, vb, .func (.func 54) #[] #[]] w fun e w' => e = .returned (.bool (plB p q)) ∧ Below w.heap.size w w' := by
  by_cases hl : p.length = q.length
  · rcases hA with ⟨rfl, a, c, rfl⟩ | ⟨g, o, c, rfl, h0, h1, h2, h3⟩
    · obtain ⟨b, d, rfl⟩ := hB.slice
      obtain rfl : q = [] := List.eq_nil_of_length_eq_zero hl.symm
      exact equalPd_nil a b c d _ w
    · rcases hB with ⟨rfl, b, d, rfl⟩ | ⟨h, u, d, rfl, k0, k1, k2, k3⟩
      · exact absurd (List.eq_nil_of_length_eq_zero hl) h0
      · rw [← hl]
        exact equalPd_some g h o u c d p q h1 hl w h2 k2 h3 k3
  · obtain ⟨a, c, rfl⟩ := hA.slice
    obtain ⟨b, d, rfl⟩ := hB.slice
    rw [plB_len hl]
    exact equalPd_len a b _ _ c d _ hl w
/-- A plan: its kind, when it begins and ends, its coins and periods as they lie, what they are. -/
structure Pn where
  k : Int
  s : Int
  e : Int
  av : Value
  pv : Value
  al : List Cn
  pl : List Pd
def pnV (x : Pn) : Value := .agg #[.int .u8 x.k, .int .u64 x.s, .int .u64 x.e, x.av, x.pv]
def PnAt (W : World) (x : Pn) : Prop := IsCL W x.av x.al ∧ IsPds W x.pv x.pl
theorem PnAt.below {W W' : World} {x : Pn} (h : PnAt W x) (hb : Below W.heap.size W W') : PnAt W' x := ⟨h.1.below hb, h.2.below hb⟩
def pnB (x y : Pn) : Bool := x.k == y.k && x.s == y.s && x.e == y.e && clB x.al y.al && plB x.pl y.pl
theorem pnB_self (x : Pn) : pnB x x = true := by simp [pnB, clB_self, plB_self]
set_option maxHeartbeats 4000000 in
theorem planSame_any {W : World} {x y : Pn} (hx : PnAt W x) (hy : PnAt W y) :
    Calls Try.prog 26 #[pnV x, pnV y] W fun e w' => e = .returned (.bool (pnB x y)) ∧ Below W.heap.size W w' := by
  obtain ⟨k, s, t, av, pv, al, pl⟩ := x
  obtain ⟨k', s', t', av', pv', al', pl'⟩ := y
  obtain ⟨hx1, hx2⟩ := hx
  obtain ⟨hy1, hy2⟩ := hy
  simp only at hx1 hx2 hy1 hy2
  obtain ⟨a1, c1, rfl⟩ := hx1.slice
  obtain ⟨a2, c2, rfl⟩ := hx2.slice
  obtain ⟨a3, c3, rfl⟩ := hy1.slice
  obtain ⟨a4, c4, rfl⟩ := hy2.slice
  show Calls Try.prog 26 #[.agg #[.int .u8 k, .int .u64 s, .int .u64 t, .slice a1 al.length c1, .slice a2 pl.length c2], .agg #[.int .u8 k', .int .u64 s', .int .u64 t', .slice a3 al'.length c3, .slice a4 pl'.length c4]] W _
  have hb : Below W.heap.size W ((W.alloc (.cells #[.int .u8 k, .int .u64 s, .int .u64 t, .slice a1 al.length c1, .slice a2 pl.length c2] 33)).alloc (.cells #[.int .u8 k', .int .u64 s', .int .u64 t', .slice a3 al'.length c3, .slice a4 pl'.length c4] 33)) := ba (ba (Below.refl _ _) _) _
  have hE := equalCL_any _ (hx1.below hb) (hy1.below hb)
  have hF : Hid (∀ X, Below W.heap.size W X → Calls Try.prog 53 #[.slice a2 pl.length c2, .slice a4 pl'.length c4, .func (.func 54) #[] #[]] X fun e w' => e = .returned (.bool (plB pl pl')) ∧ Below X.heap.size X w') := fun X hX => equalPd_any X (hx2.below hX) (hy2.below hX)
  have hkeep : Hid (∀ X, Below ((W.alloc (.cells #[.int .u8 k, .int .u64 s, .int .u64 t, .slice a1 al.length c1, .slice a2 pl.length c2] 33)).alloc (.cells #[.int .u8 k', .int .u64 s', .int .u64 t', .slice a3 al'.length c3, .slice a4 pl'.length c4] 33)).heap.size ((W.alloc (.cells #[.int .u8 k, .int .u64 s, .int .u64 t, .slice a1 al.length c1, .slice a2 pl.length c2] 33)).alloc (.cells #[.int .u8 k', .int .u64 s', .int .u64 t', .slice a3 al'.length c3, .slice a4 pl'.length c4] 33)) X → X.cell? ⟨W.heap.size, 4, none⟩ = some (.slice a2 pl.length c2) ∧ X.cell? ⟨W.heap.size + 1, 4, none⟩ = some (.slice a4 pl'.length c4)) := fun X hX => by
    have q1 := (hX.block W.heap.size (by simp; omega)).trans (al_old (by simp))
    have q2 := (hX.block (W.heap.size + 1) (by simp)).trans (al_at (by simp))
    rw [al_at rfl] at q1
    exact ⟨(cells_of_block q1).1 4, (cells_of_block q2).1 4⟩
  have hres : Hid (pnB ⟨k, s, t, .slice a1 al.length c1, .slice a2 pl.length c2, al, pl⟩ ⟨k', s', t', .slice a3 al'.length c3, .slice a4 pl'.length c4, al', pl'⟩ = (k == k' && s == s' && t == t' && clB al al' && plB pl pl')) := rfl
  by_cases hk : k = k'
  · subst hk
    by_cases hs : s = s'
    · subst hs
      by_cases ht : t = t'
      · subst ht
        cases hc : clB al al'
        · rw [hc] at hE
          have hf : Hid (pnB ⟨k, s, t, .slice a1 al.length c1, .slice a2 pl.length c2, al, pl⟩ ⟨k, s, t, .slice a3 al'.length c3, .slice a4 pl'.length c4, al', pl'⟩ = false) := by unfold Hid; rw [hres.out, hc]; simp
          clear hres hc
          go_enter Try.func26, Try.ntmps26
          go_wp2_with (go_at_call 52; refine hE.mono ?_; rintro e w1 ⟨rfl, hb1⟩)
          go_ret
          rw [hf.out]
          exact ⟨by simp, bt hb hb1⟩
        · rw [hc] at hE
          have hf : Hid (pnB ⟨k, s, t, .slice a1 al.length c1, .slice a2 pl.length c2, al, pl⟩ ⟨k, s, t, .slice a3 al'.length c3, .slice a4 pl'.length c4, al', pl'⟩ = plB pl pl') := by unfold Hid; rw [hres.out, hc]; simp
          clear hres hc
          go_enter Try.func26, Try.ntmps26
          go_wp2_with (first
            | (go_at_call 52; refine hE.mono ?_; rintro e w1 ⟨rfl, hb1⟩; obtain ⟨q1, q2⟩ := hkeep.out _ hb1)
            | (go_at_call 53; refine (hF.out _ (bt hb hb1)).mono ?_; rintro e w2 ⟨rfl, hb2⟩))
          go_ret
          rw [hf.out]
          exact ⟨by simp, bt (bt hb hb1) hb2⟩
      · have hd : (t == t') = false := by simpa using ht
        have hf : Hid (pnB ⟨k, s, t, .slice a1 al.length c1, .slice a2 pl.length c2, al, pl⟩ ⟨k, s, t', .slice a3 al'.length c3, .slice a4 pl'.length c4, al', pl'⟩ = false) := by unfold Hid; rw [hres.out, hd]; simp
        clear hres
        go_enter Try.func26, Try.ntmps26
        go_wp2
        go_ret
        rw [hf.out]
        exact ⟨by simp, hb⟩
    · have hd : (s == s') = false := by simpa using hs
      have hf : Hid (pnB ⟨k, s, t, .slice a1 al.length c1, .slice a2 pl.length c2, al, pl⟩ ⟨k, s', t', .slice a3 al'.length c3, .slice a4 pl'.length c4, al', pl'⟩ = false) := by unfold Hid; rw [hres.out, hd]; simp
      clear hres
      go_enter Try.func26, Try.ntmps26
      go_wp2
      go_ret
      rw [hf.out]
      exact ⟨by simp, hb⟩
  · have hd : (k == k') = false := by simpa using hk
    have hf : Hid (pnB ⟨k, s, t, .slice a1 al.length c1, .slice a2 pl.length c2, al, pl⟩ ⟨k', s', t', .slice a3 al'.length c3, .slice a4 pl'.length c4, al', pl'⟩ = false) := by unfold Hid; rw [hres.out, hd]; simp
    clear hres
    go_enter Try.func26, Try.ntmps26
    go_wp2
    go_ret
    rw [hf.out]
    exact ⟨by simp, hb⟩
end Go.Proofs.Ytjhjgncnadhbhaa
