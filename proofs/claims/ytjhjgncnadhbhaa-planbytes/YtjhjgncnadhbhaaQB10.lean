
/- Several texts, one behind the other: PY2, PY3, PY4, PY5, PY6, PY7. -/
import Derived.Test.YtjhjgncnadhbhaaQB9
import Derived.Deep.RegionLaw
/- plan: a plan is read. -/
set_option linter.unusedSimpArgs false
set_option linter.unusedVariables false
set_option maxRecDepth 20000
namespace Go.Proofs.Ytjhjgncnadhbhaa
open Go.RowKit

/-- What of a period is told by its bytes. -/
def nl (q : Pd) : Int × List Cn := (q.n, q.l)
theorem rd_be8 {n : Int} (h0 : 0 ≤ n) (h1 : n < 18446744073709551616) : rd (be n 8) = n := by
  simp only [be, rd, List.foldl, Int.pow_zero, Int.pow_succ, Int.ediv_one, Int.one_mul]
  omega
theorem numS_be8 {n : Int} (h0 : 0 ≤ n) (h1 : n < 18446744073709551616) (r : List Int) : numS (some (be n 8 ++ r)) 8 = (n, some r) := by
  have h := takeS_app (be n 8) r
  rw [be_len] at h
  unfold numS; rw [h, rd_be8 h0 h1]
section
variable {W : World} {b : Nat} {D : Option Nat} {r : List Int}
theorem rdLong {x : Int} (h0 : 0 ≤ x ∧ x < 18446744073709551616) (hD : D ≠ some b) (h : RdAt W b D (some (be x 8 ++ r))) :
    Calls Try.prog 24 #[.pointer (some ⟨b, 0, none⟩)] W fun e w' => e = .returned (.int .u64 x) ∧ RdAt w' b D (some r) ∧ W.grownBy w' (some b) := by
  have := rLong_any hD h
  rw [numS_be8 h0.1 h0.2] at this
  exact this
end
/-- A period more, as a step of a region that draws its order. -/
theorem per_appR {X : World} {lo bp : Nat} {v : Value} {qs : List Pd} (hr : QsAt X lo bp v qs) (hlo : lo ≤ X.heap.size) (hbp : bp < X.heap.size) (hl : qs.length ≤ 1000) (q : Pd) (h1 : q.v.oneCell' = true) (hq : IsCL X q.v q.l) (hqn : ∀ g, q.v.ownBlock = some g → g < X.heap.size ∧ v.ownBlock ≠ some g ∧ bp < g) {o : Oper} {a : Act} {K : Act → World → Prop} {Q : Exit → Act → World → Prop} (s y : Operand)
    (ho : o.op = .call { callee := .builtin .append, args := #[s, y], argTypes := #[31, 31] }) (hs : a.eval s = v) {g : Nat} (hx : a.eval y = .slice (some ⟨g, 0, none⟩) 1 1) (hc : X.heap[g]? = some (.cells #[.int .u64 q.n, q.v] 71 (0, 0)))
    (k : ∀ qs' v' w', Hid (qs' = qs ++ [q]) → QsAt w' lo bp v' qs' → X.grownBy w' v.ownBlock → (∀ n, n < X.heap.size → v.ownBlock ≠ some n → v'.ownBlock ≠ some n) → K (a.put o.dst v') w') : o.wp Try.prog a X K Q := by
  obtain ⟨i0, hi, hz0, hz1, hz2⟩ := info_parts period_info
  refine wp_append_own_at X s y 31 ho lo 71 i0 _ 2 32 Try.underlying31 hi hz0 hz1 hz2 rfl (by decide) v qs.length (cellsP qs) hs hr.row ⟨g, 0, none⟩ 1 1 [.int .u64 q.n, q.v] hx rfl (fun j u hj => by rw [add_cell, Nat.zero_add, (cells_of_block hc).1]; simpa using hj) (fun u hu => by simp at hu; rcases hu with rfl | rfl; rfl; exact h1) (by unfold maxLen; omega) (by omega) hlo ?_
  intro u' w' hown hg _ hat
  have kk : ∀ g, g < X.heap.size → v.ownBlock ≠ some g → w'.heap[g]? = X.heap[g]? := fun n hn hne => hg.block n hn (Ne.symm hne)
  have nn : ∀ g, g < X.heap.size → v.ownBlock ≠ some g → u'.ownBlock ≠ some g := fun n hn hne e => by
    rcases hat with h4 | h4
    · rw [h4] at e; exact hne e
    · rw [h4] at e; injection e with e; omega
  refine k (qs ++ [q]) u' w' rfl ⟨by rw [List.length_append, cellsP_app]; exact hown, nn bp hbp hr.nb, fun x hx => ?_⟩ hg nn
  rcases List.mem_append.1 hx with hx | hx
  · obtain ⟨q1, q2⟩ := hr.all x hx
    exact ⟨q1.keep (fun g hv => kk g (q2 g hv).1 (q2 g hv).2.1) hg.size, fun g hv => ⟨Nat.lt_of_lt_of_le (q2 g hv).1 hg.size, nn g (q2 g hv).1 (q2 g hv).2.1, (q2 g hv).2.2⟩⟩
  · rw [List.mem_singleton] at hx
    subst hx
    exact ⟨hq.keep (fun g hv => kk g (hqn g hv).1 (hqn g hv).2.1) hg.size, fun g hv => ⟨Nat.lt_of_lt_of_le (hqn g hv).1 hg.size, nn g (hqn g hv).1 (hqn g hv).2.1, (hqn g hv).2.2⟩⟩
/-- What lies where while a plan is read: the answer's place, the plan, its coins and periods, the reader. -/
structure TSt (W X : World) (B b : Nat) (D : Option Nat) (k s e : Int) (av : Value) (al : List Cn) (ap : Option Addr) (cp : Nat) (qs : List Pd) (rest : List Int) : Prop where
  res : X.heap[W.heap.size]? = some (.cells #[.int .u8 0, .int .u64 0, .int .u64 0, .slice none 0 0, .slice none 0 0] 33 (0, 0))
  box : X.heap[B]? = some (.cells #[.int .u8 k, .int .u64 s, .int .u64 e, av, .slice ap qs.length cp] 33 (0, 0))
  q : QsAt X (B + 1) B (.slice ap qs.length cp) qs
  a : IsCL X av al
  ab : ∀ g, av.ownBlock = some g → W.heap.size < g ∧ g < B
  rd : RdAt X b D (some rest)
  gr : W.grownBy X (some b)
  lo : b < W.heap.size ∧ W.heap.size < B
  sz : B < X.heap.size
  d : ∀ d, D = some d → d < W.heap.size
  db : D ≠ some b
section
variable {W X Y : World} {B b : Nat} {D : Option Nat} {k s e : Int} {av : Value} {al : List Cn} {ap : Option Addr} {cp : Nat} {qs : List Pd} {rest : List Int}
theorem TSt.read (h : TSt W X B b D k s e av al ap cp qs rest) {rest' : List Int} (hr : RdAt Y b D (some rest')) (hg : X.grownBy Y (some b)) : TSt W Y B b D k s e av al ap cp qs rest' := by
  obtain ⟨l1, l2⟩ := h.lo
  refine ⟨(hg.block _ (by have := h.sz; omega) (by simp; omega)).trans h.res, (hg.block _ h.sz (by simp; omega)).trans h.box, h.q.kept (j := b) (by omega) (fun e => by have := (h.q.row.lt b e).1; omega) hg, h.a.keep (fun g hv => hg.block g (by have := h.ab g hv; have := h.sz; omega) (by have := h.ab g hv; simp; omega)) hg.size, h.ab, hr, grown_tr h.gr hg, h.lo, Nat.lt_of_lt_of_le h.sz hg.size, h.d, h.db⟩
theorem TSt.up (h : TSt W X B b D k s e av al ap cp qs rest) (hg : X.grownBy Y none) : TSt W Y B b D k s e av al ap cp qs rest :=
  h.read (h.rd.kept hg (by simp) (by cases D <;> simp)) (grown_up hg)
theorem TSt.c4 (h : TSt W X B b D k s e av al ap cp qs rest) : X.cell? ⟨B, 4, none⟩ = some (.slice ap qs.length cp) := (cells_of_block h.box).1 4
/-- The row of periods has grown and is laid into the plan anew. -/
theorem TSt.grow (h : TSt W X B b D k s e av al ap cp qs rest) {ap' : Option Addr} {cp' : Nat} {qs' : List Pd} (hQ : QsAt Y (B + 1) B (.slice ap' qs'.length cp') qs') (hg : X.grownBy Y (Value.slice ap qs.length cp).ownBlock) (hn : ∀ n, n < X.heap.size → (Value.slice ap qs.length cp).ownBlock ≠ some n → (Value.slice ap' qs'.length cp').ownBlock ≠ some n) :
    TSt W (Y.setCell ⟨B, 4, none⟩ (.slice ap' qs'.length cp')) B b D k s e av al ap' cp' qs' rest := by
  obtain ⟨l1, l2⟩ := h.lo
  have hz := h.sz
  have ne : ∀ j, j ≤ B → (Value.slice ap qs.length cp).ownBlock ≠ some j := fun j hj e => by have := (h.q.row.lt j e).1; omega
  have hs := grown_se (grown_ref Y (some B)) 4 (.slice ap' qs'.length cp')
  have kb : ∀ j, j < B → (Y.setCell ⟨B, 4, none⟩ (.slice ap' qs'.length cp')).heap[j]? = X.heap[j]? := fun j hj =>
    (hs.block j (Nat.lt_of_lt_of_le (by omega) hg.size) (by simp; omega)).trans (hg.block j (by omega) (Ne.symm (ne j (by omega))))
  have hb : Y.heap[B]? = _ := (hg.block B hz (Ne.symm (ne B (Nat.le_refl _)))).trans h.box
  refine ⟨(kb _ l2).trans h.res, by rw [block_set _ hb]; rfl, hQ.kept (Nat.le_refl _) hQ.nb hs, h.a.keep (fun g hv => kb g (h.ab g hv).2) (Nat.le_trans hg.size hs.size), h.ab, ?_, ?_, h.lo, Nat.lt_of_lt_of_le hz (Nat.le_trans hg.size hs.size), h.d, h.db⟩
  · refine (h.rd.kept hg (Ne.symm (ne b (by omega))) ?_).kept hs (by simp; omega) ?_
    · cases hd : D with
      | none => exact .inl rfl
      | some d => right; intro e; exact ne d (by have := h.d d hd; omega) e.symm
    · cases hd : D with
      | none => exact .inl rfl
      | some d => right; intro e; simp at e; have := h.d d hd; omega
  · refine ⟨hs.os.trans (hg.os.trans h.gr.os), hs.tape.trans (hg.tape.trans h.gr.tape), hs.output.trans (hg.output.trans h.gr.output), Nat.le_trans h.gr.size (Nat.le_trans hg.size hs.size), fun j hj hne => (kb j (by omega)).trans (h.gr.block j hj hne)⟩
end
end Go.Proofs.Ytjhjgncnadhbhaa

/- plan: a plan is read. -/
namespace Go.Proofs.Ytjhjgncnadhbhaa
open Go.RowKit

theorem pB_app (x : Pn) (r : List Int) : pB x ++ r = x.k :: (be x.s 8 ++ (be x.e 8 ++ (coB x.al ++ ((x.pl.length : Int) :: (x.pl.flatMap qB ++ r))))) := by simp [pB]
theorem hid_of {p : Prop} (h : p) : Hid p := h
theorem nl_len {a b : List Pd} (h : a.map nl = b.map nl) : a.length = b.length := by
  have := congrArg List.length h; simpa using this
set_option maxRecDepth 20000 in
set_option maxHeartbeats 8000000 in
theorem planTake_any {W : World} {b : Nat} {D : Option Nat} {x : Pn} {r : List Int} (hx : LayOk x) (hgood : ∀ av pv qs, qs.map nl = x.pl.map nl → PnOk ⟨x.k, x.s, x.e, av, pv, x.al, qs⟩ ∧ rightB ⟨x.k, x.s, x.e, av, pv, x.al, qs⟩ = true) (hD : D ≠ some b) (hDl : ∀ d, D = some d → d < W.heap.size) (h : RdAt W b D (some (pB x ++ r))) :
    Calls Try.prog 25 #[.pointer (some ⟨b, 0, none⟩)] W fun e w' => ∃ a1 c1 ap cp qs, e = .returned (pnV ⟨x.k, x.s, x.e, .slice a1 x.al.length c1, .slice ap qs.length cp, x.al, qs⟩) ∧ qs.map nl = x.pl.map nl ∧ PnAt w' ⟨x.k, x.s, x.e, .slice a1 x.al.length c1, .slice ap qs.length cp, x.al, qs⟩ ∧ RdAt w' b D (some r) ∧ W.grownBy w' (some b) := by
  rw [pB_app] at h
  obtain ⟨k, s, t, av, pv, al, pl⟩ := x
  obtain ⟨hk, hs, ht, aw, ar, hn, hq⟩ := hx
  simp only at hk hs ht aw ar hn hq h hgood ⊢
  have hq : Hid (∀ q ∈ pl, _) := hq
  have hgood : Hid (∀ av pv qs, _) := hgood
  have hbl := h.lt
  have hnb : some W.heap.size ≠ some b := by simp; omega
  have hgA : W.grownBy (W.alloc (.cells #[.int .u8 0, .int .u64 0, .int .u64 0, .slice none 0 0, .slice none 0 0] 33)) none := World.grownBy_alloc W _ _
  have hA0 : (W.alloc (.cells #[.int .u8 0, .int .u64 0, .int .u64 0, .slice none 0 0, .slice none 0 0] 33)).heap[W.heap.size]? = some (.cells #[.int .u8 0, .int .u64 0, .int .u64 0, .slice none 0 0, .slice none 0 0] 33 (0, 0)) := al_at rfl
  have h0 := h.kept hgA (by simp) (by cases D <;> simp)
  have d0 := dlt_of hDl hgA
  have hAs : (W.alloc (.cells #[.int .u8 0, .int .u64 0, .int .u64 0, .slice none 0 0, .slice none 0 0] 33)).heap.size = W.heap.size + 1 := by simp
  clear h
  go_enter Try.func25, Try.ntmps25
  go_wp2_with (first
    | (go_at_call 49; with_reducible refine (rdByte (x := k) hD h0).mono ?_; rintro e w1 ⟨rfl, h1, k1⟩; have d1 := dlt_of d0 k1; have q1 := (k1.block W.heap.size (Array.getElem?_eq_some_iff.1 hA0).1 hnb).trans hA0)
    | (go_at_call 24; with_reducible refine (rdLong (x := s) hs hD h1).mono ?_; rintro e w2 ⟨rfl, h2, k2⟩; have d2 := dlt_of d1 k2; have q2 := (k2.block W.heap.size (Array.getElem?_eq_some_iff.1 q1).1 hnb).trans q1)
    | (go_at_call 24; with_reducible refine (rdLong (x := t) ht hD h2).mono ?_; rintro e w3 ⟨rfl, h3, k3⟩; have d3 := dlt_of d2 k3; have q3 := (k3.block W.heap.size (Array.getElem?_eq_some_iff.1 q2).1 hnb).trans q2)
    | (go_at_call 50; (with_reducible refine (rdCoins aw ar hD d3 h3).mono ?_; rintro e w4 ⟨a1, c1, rfl, u1, h4, k4⟩; have d4 := dlt_of d3 k4; have q4 := (k4.block W.heap.size (Array.getElem?_eq_some_iff.1 q3).1 hnb).trans q3; have z4 := (Array.getElem?_eq_some_iff.1 q4).1; have z3 := (Array.getElem?_eq_some_iff.1 q3).1; have zz : W.heap.size + 1 ≤ w3.heap.size := Nat.le_trans (Nat.le_of_eq hAs.symm) (Nat.le_trans k1.size (Nat.le_trans k2.size k3.size)); have hT0 : TSt W (w4.alloc (.cells #[.int .u8 k, .int .u64 s, .int .u64 t, .slice a1 al.length c1, .slice none 0 0] 33)) w4.heap.size b D k s t (.slice a1 al.length c1) al none 0 [] ((pl.length : Int) :: (pl.flatMap qB ++ r)) := ⟨(al_old z4).trans q4, al_at rfl, QsAt.nil _ _ _, ((own_coins u1 (by have := right_len ar; omega)).cl).below (ba (Below.refl _ _) _), fun g hg => by (have := u1.lt g hg; omega), h4.kept (World.grownBy_alloc w4 _ none) (by simp) (by cases D <;> simp), grown_tr (grown_up hgA) (grown_tr k1 (grown_tr k2 (grown_tr k3 (grown_tr k4 (World.grownBy_alloc w4 _ _))))), ⟨hbl, z4⟩, by simp, hDl, hD⟩))
    | (go_at_call 49; with_reducible refine (rdByte (x := (pl.length : Int)) hD hT0.rd).mono ?_; rintro e w5 ⟨rfl, h5, k5⟩; have hT5 := hT0.read h5 k5))
  have hT5 : Hid (TSt W w5 w4.heap.size b D k s t (.slice a1 al.length c1) al none 0 [] (pl.flatMap qB ++ r)) := hT5
  clear hT0 h0 h1 h2 h3 h4 h5 k1 k2 k3 k4 k5 q1 q2 q3 q4 d0 d1 d2 d3 d4 u1 z3 z4 zz hA0 hgA hAs
  generalize w4.heap.size = B at *
  clear w1 w2 w3 w4
  go_loopw [4] (fun i X => ∃ (j : Nat) (ap : Option Addr) (cp : Nat) (qs : List Pd), j ≤ pl.length ∧ i = .int .u8 ((pl.length : Int) - (j : Int)) ∧ Hid (qs.map nl = (pl.take j).map nl) ∧ Hid (TSt W X B b D k s t (.slice a1 al.length c1) al ap cp qs ((pl.drop j).flatMap qB ++ r))) (fun i _ => (intOf i).toNat)
  case atStart => exact ⟨0, none, 0, [], by omega, by simp, rfl, by simpa using hT5⟩
  case round =>
    obtain ⟨j, ap, cp, qs, hj, rfl, hqs, hT⟩ := hrel
    have hTr : Hid (RdAt wr b D (some ((pl.drop j).flatMap qB ++ r))) := hT.out.rd
    by_cases hlt : j < pl.length
    · have hj0 : (0 : Int) < (pl.length : Int) - (j : Int) := by omega
      have hjd : decide ((0 : Int) < (pl.length : Int) - (j : Int)) = true := decide_eq_true hj0
      have hdr : Hid ((pl.drop j).flatMap qB ++ r = be pl[j].n 8 ++ (coB pl[j].l ++ ((pl.drop (j + 1)).flatMap qB ++ r))) := by show _ = _; rw [List.drop_eq_getElem_cons hlt, List.flatMap_cons]; simp [qB]
      have htk : Hid ((pl.take (j + 1)).map nl = (pl.take j).map nl ++ [(pl[j].n, pl[j].l)]) := by show _ = _; rw [List.take_succ_eq_append_getElem hlt, List.map_append]; rfl
      obtain ⟨hqn, hqw, hqr⟩ := hq.out pl[j] (List.getElem_mem hlt)
      generalize pl[j].n = n at *
      generalize pl[j].l = l at *
      have hT : Hid _ := hT.out.up (grown_dr (grown_ref wr none))
      rw [hdr.out] at hT
      go_wp2_with (go_at_call 29; with_reducible refine (rBad_any hTr.out).mono ?_; rintro e w' ⟨rfl, hww⟩; obtain rfl := hww.symm; clear hww)
      clear hTr hjd
      have b0 := hT.out.c4
      have hq16 : qs.length ≤ 16 := by have := nl_len hqs.out; rw [this, List.length_take]; omega
      have hq16 : Hid (qs.length ≤ 1000) := Nat.le_trans hq16 (by decide)
      have hw1 : IntKind.u8.wrap ((pl.length : Int) - (j : Int) - 1) = (pl.length : Int) - (j : Int) - 1 := by rw [IntKind.wrap_u8]; omega
      go_region_law (first
        | (rw [if_pos (by rfl)]; refine per_appR hT3.out.q hB3 hz3 hq16.out ⟨n, .slice a2 l.length c2, l⟩ rfl hI3.out hO3.out _ _ rfl rfl rfl (al_at rfl) ?_; intro qs4 v4 w4 hq4 hQ4 hg4 hn4; obtain ⟨a4, c4, rfl⟩ := row_slice hQ4.row; have hT4 := hid_of (hT3.out.grow hQ4 hg4 hn4); obtain ⟨e4, f4⟩ := cells_of_block ((hg4.block B hz3 (Ne.symm hT3.out.q.nb)).trans hT3.out.box); clear hQ4 hg4 hn4)
        | (go_simp; go_at_call 24; (with_reducible refine (rdLong hqn hD hT.out.rd).mono ?_; rintro e w1 ⟨rfl, h1, k1⟩; have hT1 := hid_of (hT.out.read h1 k1); have b1 := hT1.out.c4; clear h1 k1))
        | (go_simp; go_at_call 50; (with_reducible refine (rdCoins hqw hqr hD (fun d hd => Nat.lt_of_lt_of_le (hDl d hd) hT1.out.gr.size) hT1.out.rd).mono ?_; rintro e w2 ⟨a2, c2, rfl, u2, h2, k2⟩; have hT3 := hid_of ((hT1.out.read h2 k2).up (World.grownBy_alloc w2 (.cells #[.int .u64 n, .slice a2 l.length c2] 71) none)); have b3 := hT3.out.c4; have b2 := (hT1.out.read h2 k2).c4; have hI3 := hid_of (((own_coins u2 (Nat.le_trans (right_len hqr) (by decide))).cl).below (ba (Below.refl _ _) (.cells #[.int .u64 n, .slice a2 l.length c2] 71))); have hO3 := hid_of (p := ∀ g, (Value.slice a2 l.length c2).ownBlock = some g → g < (w2.alloc (.cells #[.int .u64 n, .slice a2 l.length c2] 71)).heap.size ∧ (Value.slice ap qs.length cp).ownBlock ≠ some g ∧ B < g) fun g hg => ⟨Nat.lt_of_lt_of_le (u2.lt g hg).2 (World.grownBy_alloc w2 _ none).size, fun e => absurd (Nat.lt_of_lt_of_le (hT1.out.q.row.lt g e).2 (u2.lt g hg).1) (Nat.lt_irrefl g), Nat.lt_of_lt_of_le hT1.out.sz (u2.lt g hg).1⟩; have hz3 := hT3.out.sz; have hB3 : B + 1 ≤ (w2.alloc (.cells #[.int .u64 n, .slice a2 l.length c2] 71)).heap.size := Nat.succ_le_of_lt hT3.out.sz; clear h2 k2 u2)))
      all_goals
        go_wp2
        go_roundw
        case rel => exact ⟨j + 1, a4, c4, qs4, by omega, by (congr 1; omega), by (show _ = _; rw [hq4.out, List.map_append, hqs.out, htk.out]; rfl), hT4⟩
        case measure => (simp [intOf] <;> omega)
    · obtain rfl : j = pl.length := by omega
      rw [List.take_length] at hqs
      rw [List.drop_length] at hT hTr
      clear hTr
      obtain ⟨hok, hrt⟩ := hgood.out (.slice a1 al.length c1) (.slice ap qs.length cp) qs hqs.out
      have hql : qs.length ≤ 1048576 := by have := nl_len hqs.out; omega
      obtain ⟨e0, f0⟩ := cells_of_block hT.out.box
      have b0 := e0 0; have b1 := e0 1; have b2 := e0 2; have b3 := e0 3; have b4 := e0 4
      have hR0 := planRight_any (x := ⟨k, s, t, .slice a1 al.length c1, .slice ap qs.length cp, al, qs⟩) wr ⟨hT.out.a, hT.out.q.pds hql⟩ hok
      rw [hrt] at hR0
      have hR : Hid (Calls Try.prog 12 #[.agg #[.int .u8 k, .int .u64 s, .int .u64 t, .slice a1 al.length c1, .slice ap qs.length cp]] wr fun e w' => e = .returned (.bool true) ∧ Below wr.heap.size wr w') := hR0
      clear hR0
      go_wp2_with (first
        | (go_at_call 12; (with_reducible refine hR.out.mono ?_; rintro e w6 ⟨rfl, hb6⟩; have hT6 := hid_of (hT.out.up (grown_none hb6)); obtain ⟨e6, f6⟩ := cells_of_block hT6.out.box; have r6 := hid_of hT6.out.rd; obtain ⟨e7, f7⟩ := cells_of_block hT6.out.res))
        | (go_at_call 29; (with_reducible refine (rBad_any r6.out).mono ?_; rintro e w7 ⟨rfl, hw7⟩; obtain rfl := hw7.symm; clear hw7)))
      have hfl : (List.flatMap qB [] ++ r) = r := rfl
      have hfin : ∀ X : World, w6.grownBy X (some W.heap.size) → PnAt X ⟨k, s, t, .slice a1 al.length c1, .slice ap qs.length cp, al, qs⟩ ∧ RdAt X b D (some r) ∧ W.grownBy X (some b) := by
        intro X hX
        obtain ⟨l1, l2⟩ := hT6.out.lo
        have hz := hT6.out.sz
        refine ⟨⟨hT6.out.a.keep (fun g hv => hX.block g (by have := hT6.out.ab g hv; omega) (by have := hT6.out.ab g hv; simp; omega)) hX.size, (hT6.out.q.kept (j := W.heap.size) (by omega) (fun e => by have := (hT6.out.q.row.lt _ e).1; omega) hX).pds hql⟩, ?_, grown_new hT6.out.gr hX (Nat.le_refl _)⟩
        refine r6.out.kept hX (by simp; omega) ?_
        cases hd : D with
        | none => exact .inl rfl
        | some d => right; intro e; simp at e; have := hDl d hd; omega
      refine bodyPost_ret (v := .agg #[.int .u8 k, .int .u64 s, .int .u64 t, .slice a1 al.length c1, .slice ap qs.length cp]) (by simp only [results, Try.results25]; go_simp) rfl ⟨a1, c1, ap, cp, qs, rfl, hqs.out, hfin _ ?_⟩
      repeat (first | (with_reducible exact grown_ref _ _) | (with_reducible apply grown_se))
end Go.Proofs.Ytjhjgncnadhbhaa

/- plan: the reference's bytes. -/
namespace Go.Proofs.Ytjhjgncnadhbhaa
open Go.RowKit

/-- Bytes of one's own, and nothing that is old was turned. -/
structure OB (V X : World) (v : Value) (q : List Int) : Prop where
  row : X.ownsRow V.heap.size 5 1 v q.length (encB q)
  b : Below V.heap.size V X
theorem OB.put {V X : World} {v : Value} {q : List Int} (h : OB V X v q) {Y : World} {u : Value} {m : List Int} {lo : Nat} (hu : Y.ownsRow lo 5 1 u m.length (encB m)) (hY : Below X.heap.size X Y) (hm : m ≠ []) (hl : q.length + m.length ≤ 100000) {ops : Array Oper} {rest : List Oper} {o : Oper} {a : Act} {Q : Exit → Act → World → Prop} (hgd : o.guard = none) (s y : Operand)
    (ho : o.op = .call { callee := .builtin .append, args := #[s, y], argTypes := #[42, 42] }) (hs : a.eval s = v) (hx : a.eval y = u)
    (k : ∀ a' c' q' w', Hid (q' = q ++ m) → Hid (OB V w' (.slice a' q'.length c') q') → wpList Try.prog ops Q rest (a.put o.dst (.slice a' q'.length c')) w') : wpList Try.prog ops Q (o :: rest) a Y := by
  obtain ⟨i0, hi, hz0, hz1, hz2⟩ := info_parts u8_info
  have hrow := none_row h.row (grown_none hY)
  have hB := h.b.trans (hY.mono h.b.size)
  rcases src_own hu with ⟨rfl, hq0⟩ | ⟨ad, cap2, rfl, hc2⟩
  · exact absurd hq0 hm
  · refine wpList_append_own Y hgd s y 42 ho V.heap.size 5 i0 (.int .u8 0) 1 1 Try.underlying42 hi hz0 hz1 hz2 rfl (by decide) v q.length (encB q) hs hrow ad _ cap2 (encB m) hx (by simp [encB]) (fun j x hj => by simp only [encB, List.getElem?_map] at hj; obtain ⟨y, hy, rfl⟩ := Option.map_eq_some_iff.1 hj; exact hc2 j y hy) (by simp [encB, Value.oneCell']) (by unfold maxLen; omega) (by omega) hB.size ?_
    intro v3 w3 hown3 hgrow3 _
    have hf : w3.ownsRow V.heap.size 5 1 v3 (q ++ m).length (encB (q ++ m)) := by rw [List.length_append, encB_app]; exact hown3
    obtain ⟨a', c', rfl⟩ := row_slice hf
    exact k a' c' (q ++ m) w3 rfl ⟨hf, hB.grown hgrow3 hB.size (fun j hj => (hrow.lt j hj).1)⟩
theorem qB_snoc (l : List Pd) (q : Pd) : (l ++ [q]).flatMap qB = l.flatMap qB ++ be q.n 8 ++ coB q.l := by simp [qB]
end Go.Proofs.Ytjhjgncnadhbhaa

/- plan: the reference's bytes of a plan. -/
namespace Go.Proofs.Ytjhjgncnadhbhaa
open Go.RowKit

theorem hid_of5 {p : Prop} (h : p) : Hid p := h
theorem long8 (n : Int) (hn : 0 ≤ n ∧ n < 18446744073709551616) (X : World) :
    Calls Try.prog 22 #[.int .u64 n, .int .i64 8] X fun e w' => ∃ u, e = .returned u ∧ w'.ownsRow X.heap.size 5 1 u (be n 8).length (encB (be n 8)) ∧ Below X.heap.size X w' := longR_any n hn 8 (by decide) X
theorem coinsB {X : World} {u : Value} {L : List Cn} (hu : IsCoins X u L) (hwf : ∀ x ∈ L, CnWf x) (hr : rightFrom 0 L = true) :
    Calls Try.prog 47 #[u] X fun e w' => ∃ v, e = .returned v ∧ w'.ownsRow X.heap.size 5 1 v (coB L).length (encB (coB L)) ∧ Below X.heap.size X w' := coinsR4_any hwf (Nat.le_trans (right_len hr) (by decide)) X hu
theorem be8_ne (n : Int) : be n 8 ≠ [] := by simp [be]
theorem coB_ne (L : List Cn) : coB L ≠ [] := by simp [coB]
theorem ob_made (X : World) (n : Int) : (X.alloc (.cells #[.int .u8 n] 5)).ownsRow X.heap.size 5 1 (.slice (some ⟨X.heap.size, 0, none⟩) 1 1) ([n] : List Int).length (encB [n]) := made1 X n (Nat.le_refl _)
set_option maxRecDepth 20000 in
set_option maxHeartbeats 8000000 in
theorem planBytesR_any {W : World} {x : Pn} (h : PnAt W x) (hx : LayOk x) :
    Calls Try.prog 23 #[pnV x] W fun e w' => ∃ u, e = .returned u ∧ w'.ownsRow W.heap.size 5 1 u (pB x).length (encB (pB x)) ∧ Below W.heap.size W w' := by
  obtain ⟨k, s, t, av, pv, al, pl⟩ := x
  obtain ⟨hk, hs, ht, aw, ar, hn, hq⟩ := hx
  obtain ⟨h1, h2⟩ := h
  simp only at hk hs ht aw ar hn hq h1 h2 ⊢
  obtain ⟨a1, c1, rfl⟩ := h1.slice
  obtain ⟨a2, c2, rfl⟩ := h2.slice
  have hal8 := right_len ar
  have hI : Hid (IsCoins W (.slice a1 al.length c1) al) := h1.coins (by omega)
  have hP : Hid (IsPds W (.slice a2 pl.length c2) pl) := h2
  have hq : Hid (∀ q ∈ pl, _) := hq
  clear h1 h2
  show Calls Try.prog 23 #[.agg #[.int .u8 k, .int .u64 s, .int .u64 t, .slice a1 al.length c1, .slice a2 pl.length c2]] W _
  obtain ⟨V, hV⟩ : ∃ V, V = W.alloc (.cells #[.int .u8 k, .int .u64 s, .int .u64 t, .slice a1 al.length c1, .slice a2 pl.length c2] 33) := ⟨_, rfl⟩
  have hVs : V.heap.size = W.heap.size + 1 := by rw [hV]; simp
  have hWV : Below W.heap.size W V := by rw [hV]; exact ba (Below.refl _ _) _
  have hVb : V.heap[W.heap.size]? = some (.cells #[.int .u8 k, .int .u64 s, .int .u64 t, .slice a1 al.length c1, .slice a2 pl.length c2] 33 (0, 0)) := by rw [hV]; exact al_at rfl
  have hbx : Hid (∀ X, Below V.heap.size V X → (X.cell? ⟨W.heap.size, 1, none⟩ = some (.int .u64 s) ∧ X.cell? ⟨W.heap.size, 2, none⟩ = some (.int .u64 t) ∧ X.cell? ⟨W.heap.size, 3, none⟩ = some (.slice a1 al.length c1) ∧ X.cell? ⟨W.heap.size, 4, none⟩ = some (.slice a2 pl.length c2)) ∧ Below W.heap.size W X) := fun X hX => by
    obtain ⟨c, f⟩ := cells_of_block ((hX.block W.heap.size (by omega)).trans hVb)
    exact ⟨⟨c 1, c 2, c 3, c 4⟩, hWV.trans (hX.mono (by omega))⟩
  have hw8 : IntKind.u8.wrap (pl.length : Int) = (pl.length : Int) := by rw [IntKind.wrap_u8]; omega
  have hcl := coB_len ar
  have hO0 : Hid (OB V (V.alloc (.cells #[.int .u8 k] 5)) (.slice (some ⟨V.heap.size, 0, none⟩) [k].length 1) [k]) := ⟨made1 V k (Nat.le_refl _), ba (Below.refl _ _) _⟩
  obtain ⟨⟨x1, x2, x3, x4⟩, hX0⟩ := hbx.out _ hO0.out.b
  go_enter Try.func23, Try.ntmps23
  go_upto_region 1 with fail
  rw [← hV]
  obtain ⟨v0, fv⟩ := cells_of_block hVb
  have v00 := v0 0
  have hVH : Hid (V.heap.size = W.heap.size + 1) := hVs
  clear hV hVs hVb v0
  have l0 : [k].length + (be s 8).length ≤ 100000 := by simp [be_len]
  have l0 := hid_of5 l0
  have hbl : ∀ n, (be n 8).length = 8 := fun n => be_len n 8
  have hbl := hid_of5 hbl
  go_wp2_with (first
    | (go_at_call 22; with_reducible refine (long8 s hs _).mono ?_; rintro e w1 ⟨u1, rfl, ho1, hb1⟩)
    | (at_builtin; (refine hO0.out.put ho1 hb1 (be8_ne _) l0.out rfl _ _ rfl rfl rfl ?_; intro a3 c3 q1 w2 hq1 hO1; have l1 := hid_of5 (show q1.length + (be t 8).length ≤ 100000 by (rw [hq1.out, List.length_append, hbl.out, hbl.out]; simp only [List.length_singleton]; omega)); obtain ⟨⟨y1, y2, y3, y4⟩, hX1⟩ := hbx.out _ hO1.out.b; clear ho1 hb1))
    | (go_at_call 22; with_reducible refine (long8 t ht _).mono ?_; rintro e w3 ⟨u3, rfl, ho3, hb3⟩)
    | (at_builtin; (refine hO1.out.put ho3 hb3 (be8_ne _) l1.out rfl _ _ rfl rfl rfl ?_; intro a4 c4 q2 w4 hq2 hO2; have l2 := hid_of5 (show q2.length + (coB al).length ≤ 100000 by (rw [hq2.out, hq1.out, List.length_append, List.length_append, hbl.out, hbl.out]; simp only [List.length_singleton]; omega)); obtain ⟨⟨z1, z2, z3, z4⟩, hX2⟩ := hbx.out _ hO2.out.b; clear ho3 hb3))
    | (go_at_call 47; (with_reducible refine (coinsB (hI.out.below hX2) aw ar).mono ?_; rintro e w5 ⟨u5, rfl, ho5, hb5⟩))
    | (at_builtin; (refine hO2.out.put ho5 hb5 (coB_ne _) l2.out rfl _ _ rfl rfl rfl ?_; intro a6 c6 q3 w6 hq3 hO3; have l3 := hid_of5 (show q3.length + [(pl.length : Int)].length ≤ 100000 by (rw [hq3.out, hq2.out, hq1.out, List.length_append, List.length_append, List.length_append, hbl.out, hbl.out]; simp only [List.length_singleton]; omega)); obtain ⟨⟨p1, p2, p3, p4⟩, hX3⟩ := hbx.out _ hO3.out.b; clear ho5 hb5))
    | (at_builtin; (refine hO3.out.put (ob_made _ (pl.length : Int)) (ba (Below.refl _ _) _) (by simp) l3.out rfl _ _ rfl rfl rfl ?_; intro a7 c7 q4 w7 hq4 hO4)))
  have hQ0 : Hid (q4 = [k] ++ be s 8 ++ be t 8 ++ coB al ++ [(pl.length : Int)]) := by show _ = _; rw [hq4.out, hq3.out, hq2.out, hq1.out]
  have hQl : q4.length ≤ 300 := by rw [hQ0.out]; simp [be_len]; omega
  clear hq1 hq2 hq3 hq4 hO0 hO1 hO2 hO3 x1 x2 x3 x4 y1 y2 y3 y4 z1 z2 z3 z4 p1 p2 p3 p4 hX0 hX1 hX2 hX3 l0 l1 l2 l3 v00 fv hcl
  go_loopw [3, 4] (fun pv i X => ∃ (j : Nat) (q : List Int) (a : Option Addr) (c : Nat), j ≤ pl.length ∧ i = .int .i64 (j : Int) ∧ pv = .slice a q.length c ∧ Hid (q = q4 ++ (pl.take j).flatMap qB) ∧ Hid (OB V X (.slice a q.length c) q)) (fun _ i _ => pl.length - (intOf i).toNat)
  case atStart => exact ⟨0, q4, a7, c7, by omega, rfl, rfl, by simp [Hid], hO4⟩
  case round =>
    obtain ⟨j, q, a, c, hj, rfl, rfl, hqe, hO⟩ := hrel
    obtain ⟨⟨x1, x2, x3, x4⟩, hX⟩ := hbx.out _ hO.out.b
    by_cases hlt : j < pl.length
    · obtain ⟨blk, off, rfl, hbl2, d0, d1, d2⟩ := pds_at hP.out j pl[j] (List.getElem?_eq_getElem hlt)
      obtain ⟨hqn, hqw, hqr⟩ := hq.out pl[j] (List.getElem_mem hlt)
      have htk : Hid ((pl.take (j + 1)).flatMap qB = (pl.take j).flatMap qB ++ be pl[j].n 8 ++ coB pl[j].l) := by show _ = _; rw [List.take_succ_eq_append_getElem hlt, qB_snoc]
      have hlen : q.length ≤ 300 + 281 * 16 := by
        have := qsB_len (l := pl.take j) (fun q hq' => (hq.out q (List.mem_of_mem_take hq')).2.2)
        rw [List.length_take] at this
        rw [hqe.out, List.length_append]
        omega
      generalize pl[j] = pp at *
      obtain ⟨n, u, l⟩ := pp
      simp only at hqn hqw hqr d0 d1 d2 htk
      have hcl := coB_len hqr
      obtain ⟨aq, cq, rfl⟩ := d2.slice
      have hI : Hid (IsCoins W (.slice aq l.length cq) l) := d2.coins (Nat.le_trans (right_len hqr) (by decide))
      have hlt' : (j : Int) < (pl.length : Int) := by omega
      have hc : Hid (∀ X, Below W.heap.size W X → X.cell? ⟨blk, off + j * 2, none⟩ = some (.int .u64 n) ∧ X.cell? ⟨blk, off + j * 2 + 1, none⟩ = some (.slice aq l.length cq)) := fun X hX => ⟨(hX.cell (p := ⟨blk, _, none⟩) hbl2).trans d0, (hX.cell (p := ⟨blk, _, none⟩) hbl2).trans d1⟩
      obtain ⟨c0, c1'⟩ := hc.out _ hX
      have m0 := hid_of5 (show q.length + (be n 8).length ≤ 100000 by rw [hbl.out]; omega)
      clear d0 d1 d2 hQl
      go_wp2_with (first
        | (go_at_call 22; with_reducible refine (long8 n hqn _).mono ?_; rintro e w1 ⟨u1, rfl, ho1, hb1⟩)
        | (at_builtin; (refine hO.out.put ho1 hb1 (be8_ne _) m0.out rfl _ _ rfl rfl rfl ?_; intro a3 c3 q1 w2 hq1 hO1; obtain ⟨⟨y1, y2, y3, y4⟩, hX1⟩ := hbx.out _ hO1.out.b; obtain ⟨g0, g1⟩ := hc.out _ hX1; have m1 := hid_of5 (show q1.length + (coB l).length ≤ 100000 by (rw [hq1.out, List.length_append, hbl.out]; omega)); clear ho1 hb1))
        | (go_at_call 47; with_reducible refine (coinsB (hI.out.below hX1) hqw hqr).mono ?_; rintro e w5 ⟨u5, rfl, ho5, hb5⟩)
        | (at_builtin; (refine hO1.out.put ho5 hb5 (coB_ne _) m1.out rfl _ _ rfl rfl rfl ?_; intro a6 c6 q2 w6 hq2 hO2; clear ho5 hb5)))
      all_goals go_roundw
      case rel => exact ⟨j + 1, q2, a6, c6, by omega, by go_num, rfl, by (show _ = _; rw [hq2.out, hq1.out, hqe.out, htk.out]; simp), hO2⟩
      case measure => (simp [intOf] <;> omega)
    · obtain rfl : j = pl.length := by omega
      rw [List.take_length] at hqe
      go_wp2
      go_ret
      have hf : q = pB ⟨k, s, t, .slice a1 al.length c1, .slice a2 pl.length c2, al, pl⟩ := by rw [hqe.out, hQ0.out]; simp [pB]
      rw [← hf]
      exact ⟨_, rfl, row_base hO.out.row (by rw [hVH.out]; omega), hX⟩
end Go.Proofs.Ytjhjgncnadhbhaa

/- plan: what is read of a plan's bytes is the plan (plain). -/
namespace Go.Proofs.Ytjhjgncnadhbhaa
open Go.RowKit

theorem nl_tot : ∀ {a b : List Pd}, a.map nl = b.map nl → tot a = tot b
  | [], [], _ => rfl
  | [], _ :: _, h => by simp at h
  | _ :: _, [], h => by simp at h
  | x :: a, y :: b, h => by
    simp only [List.map_cons, List.cons.injEq, nl, Prod.mk.injEq] at h
    funext d
    simp only [tot]
    rw [nl_tot (a := a) (b := b) h.2, h.1.2]
theorem nl_lenS : ∀ {a b : List Pd}, a.map nl = b.map nl → lenS a = lenS b
  | [], [], _ => rfl
  | [], _ :: _, h => by simp at h
  | _ :: _, [], h => by simp at h
  | x :: a, y :: b, h => by
    simp only [List.map_cons, List.cons.injEq, nl, Prod.mk.injEq] at h
    simp only [lenS]
    rw [nl_lenS (a := a) (b := b) h.2, h.1.1]
theorem nl_all : ∀ {a b : List Pd}, a.map nl = b.map nl → a.all pdR = b.all pdR
  | [], [], _ => rfl
  | [], _ :: _, h => by simp at h
  | _ :: _, [], h => by simp at h
  | x :: a, y :: b, h => by
    simp only [List.map_cons, List.cons.injEq, nl, Prod.mk.injEq] at h
    simp only [List.all_cons]
    rw [nl_all (a := a) (b := b) h.2]
    simp only [pdR, h.1.1, h.1.2]
theorem nl_emp {a b : List Pd} (h : a.map nl = b.map nl) : a.isEmpty = b.isEmpty := by
  cases a <;> cases b <;> simp at h ⊢
theorem nl_mem {a b : List Pd} (h : a.map nl = b.map nl) {q : Pd} (hq : q ∈ a) : ∃ p ∈ b, p.n = q.n ∧ p.l = q.l := by
  have h1 : nl q ∈ b.map nl := by rw [← h]; exact List.mem_map_of_mem hq
  obtain ⟨p, hp, e⟩ := List.mem_map.1 h1
  simp only [nl, Prod.mk.injEq] at e
  exact ⟨p, hp, e.1, e.2⟩
theorem take_good {x : Pn} (ho : PnOk x) (hr : rightB x = true) (av pv : Value) (qs : List Pd) (h : qs.map nl = x.pl.map nl) : PnOk ⟨x.k, x.s, x.e, av, pv, x.al, qs⟩ ∧ rightB ⟨x.k, x.s, x.e, av, pv, x.al, qs⟩ = true := by
  obtain ⟨k, s, e, av', pv', al, pl⟩ := x
  simp only at h ⊢
  refine ⟨⟨⟨ho.w.k, ho.w.s, ho.w.e, ho.w.al⟩, fun q hq => ?_⟩, ?_⟩
  · obtain ⟨p, hp, e1, e2⟩ := nl_mem h hq
    have := ho.p p hp
    exact ⟨by rw [← e1]; exact this.n, by rw [← e2]; exact this.l⟩
  · rw [← hr]
    simp only [rightB, givesB, stepsB, rightN, nl_tot h, nl_lenS h, nl_all h, nl_len h, nl_emp h]
theorem plB_nl : ∀ {a b : List Pd}, a.map nl = b.map nl → plB a b = true
  | [], [], _ => rfl
  | [], _ :: _, h => by simp at h
  | _ :: _, [], h => by simp at h
  | x :: a, y :: b, h => by
    simp only [List.map_cons, List.cons.injEq, nl, Prod.mk.injEq] at h
    have := plB_nl (a := a) (b := b) h.2
    simp [plB, pdB, this, h.1.1, h.1.2, clB_self]
theorem pnB_nl {x : Pn} (av pv : Value) (qs : List Pd) (h : qs.map nl = x.pl.map nl) : pnB ⟨x.k, x.s, x.e, av, pv, x.al, qs⟩ x = true := by
  simp [pnB, clB_self, plB_nl h]
theorem coB_rng {L : List Cn} (hw : ∀ c ∈ L, CnWf c) (hr : rightFrom 0 L = true) : ∀ y ∈ coB L, 0 ≤ y ∧ y ≤ 255 := by
  intro y hy
  rcases List.mem_cons.1 hy with rfl | hy
  · have := right_len hr; omega
  · exact layL_rng L hw y hy
theorem pB_rng {x : Pn} (h : LayOk x) : ∀ y ∈ pB x, 0 ≤ y ∧ y ≤ 255 := by
  intro y hy
  simp only [pB, List.mem_append, List.mem_singleton, List.mem_flatMap, qB] at hy
  rcases hy with ((((rfl | hy) | hy) | hy) | rfl) | ⟨q, hq, hy | hy⟩
  · exact h.k
  · exact be_rng _ _ y hy
  · exact be_rng _ _ y hy
  · exact coB_rng h.aw h.ar y hy
  · have := h.n; omega
  · exact be_rng _ _ y hy
  · exact coB_rng (h.q q hq).2.1 (h.q q hq).2.2 y hy
theorem pB_len {x : Pn} (h : LayOk x) : (pB x).length ≤ 5000 := by
  have h1 := coB_len h.ar
  have h2 := qsB_len (l := x.pl) (fun q hq => (h.q q hq).2.2)
  have h3 := h.n
  simp only [pB, List.length_append, be_len, List.length_singleton]
  omega
end Go.Proofs.Ytjhjgncnadhbhaa

/- plan: bytes are joined; what PlanBytes asks, in the form its walk takes. -/
namespace Go.Proofs.Ytjhjgncnadhbhaa
open Go.RowKit

set_option maxHeartbeats 2000000 in
theorem join2_any {W : World} {u t : Value} {p q : List Int} {lo lo' : Nat} (hu : W.ownsRow lo 5 1 u p.length (encB p)) (ht : W.ownsRow lo' 5 1 t q.length (encB q)) (hp : p ≠ []) (hq : q ≠ []) (hl : p.length + q.length ≤ 100000) :
    Calls Try.prog 21 #[u, t] W fun e w' => ∃ v, e = .returned v ∧ w'.ownsRow W.heap.size 5 1 v (p ++ q).length (encB (p ++ q)) ∧ Below W.heap.size W w' := by
  have hO0 : Hid (OB W W (.slice none 0 0) []) := ⟨World.ownsRow_nil _ _ _ _, Below.refl _ _⟩
  go_enter Try.func21, Try.ntmps21
  go_wp2_with (first
    | (at_builtin; refine hO0.out.put hu (Below.refl _ _) hp (by simp; omega) rfl _ _ rfl rfl rfl ?_; intro a1 c1 q1 w1 hq1 hO1; have ht1 := none_row ht (grown_none hO1.out.b))
    | (at_builtin; refine hO1.out.put ht1 (Below.refl _ _) hq (by (rw [hq1.out]; simp; omega)) rfl _ _ rfl rfl rfl ?_; intro a2 c2 q2 w2 hq2 hO2))
  go_ret
  have e : q2 = p ++ q := by rw [hq2.out, hq1.out]; simp
  rw [← e]
  exact ⟨_, rfl, hO2.out.row, hO2.out.b⟩
section
variable {W : World} {k s t : Int} {a1 a2 : Option Addr} {n1 c1 n2 c2 : Nat} {al : List Cn} {pl : List Pd} {n : Int}
/-- A plan that was laid, with a number behind it, is read: a plan that is the same. -/
theorem takeK (ok : PnOk ⟨k, s, t, .slice a1 n1 c1, .slice a2 n2 c2, al, pl⟩) (rb : rightB ⟨k, s, t, .slice a1 n1 c1, .slice a2 n2 c2, al, pl⟩ = true) {X : World} {b : Nat} {D : Option Nat} {PB r : List Int} (hPB : Hid (PB = pB ⟨k, s, t, .slice a1 n1 c1, .slice a2 n2 c2, al, pl⟩)) (hD : D ≠ some b) (hDl : ∀ d, D = some d → d < X.heap.size) (h : RdAt X b D (some (PB ++ r))) :
    Calls Try.prog 25 #[.pointer (some ⟨b, 0, none⟩)] X fun e w' => ∃ a3 n3 c3 a4 n4 c4 ql, e = .returned (.agg #[.int .u8 k, .int .u64 s, .int .u64 t, .slice a3 n3 c3, .slice a4 n4 c4]) ∧ Hid (PnAt w' ⟨k, s, t, .slice a3 n3 c3, .slice a4 n4 c4, al, ql⟩) ∧ Hid (pnB ⟨k, s, t, .slice a3 n3 c3, .slice a4 n4 c4, al, ql⟩ ⟨k, s, t, .slice a1 n1 c1, .slice a2 n2 c2, al, pl⟩ = true) ∧ RdAt w' b D (some r) ∧ X.grownBy w' (some b) := by
  rw [hPB.out] at h
  refine (planTake_any (x := ⟨k, s, t, .slice a1 n1 c1, .slice a2 n2 c2, al, pl⟩) (layOk ok (right_facts rb)) (fun av pv qs hq => take_good ok rb av pv qs hq) hD hDl h).mono ?_
  rintro e w' ⟨a3, c3, ap, cp, qs, rfl, h1, h2, h3, h4⟩
  exact ⟨a3, _, c3, ap, _, cp, qs, rfl, h2, pnB_nl (x := ⟨k, s, t, .slice a1 n1 c1, .slice a2 n2 c2, al, pl⟩) _ _ qs h1, h3, h4⟩
theorem sameP {X : World} {a3 a4 : Option Addr} {n3 c3 n4 c4 : Nat} {ql : List Pd} (hB : pnB ⟨k, s, t, .slice a3 n3 c3, .slice a4 n4 c4, al, ql⟩ ⟨k, s, t, .slice a1 n1 c1, .slice a2 n2 c2, al, pl⟩ = true) (hx : PnAt X ⟨k, s, t, .slice a3 n3 c3, .slice a4 n4 c4, al, ql⟩) (hy : PnAt X ⟨k, s, t, .slice a1 n1 c1, .slice a2 n2 c2, al, pl⟩) :
    Calls Try.prog 26 #[.agg #[.int .u8 k, .int .u64 s, .int .u64 t, .slice a3 n3 c3, .slice a4 n4 c4], .agg #[.int .u8 k, .int .u64 s, .int .u64 t, .slice a1 n1 c1, .slice a2 n2 c2]] X fun e w' => e = .returned (.bool true) ∧ Below X.heap.size X w' := by
  have := planSame_any hx hy
  rw [hB] at this
  exact this
theorem bytesK (ok : PnOk ⟨k, s, t, .slice a1 n1 c1, .slice a2 n2 c2, al, pl⟩) (rb : rightB ⟨k, s, t, .slice a1 n1 c1, .slice a2 n2 c2, al, pl⟩ = true) {X : World} {PB : List Int} (hPB : Hid (PB = pB ⟨k, s, t, .slice a1 n1 c1, .slice a2 n2 c2, al, pl⟩)) (h : PnAt X ⟨k, s, t, .slice a1 n1 c1, .slice a2 n2 c2, al, pl⟩) :
    Calls Try.prog 23 #[.agg #[.int .u8 k, .int .u64 s, .int .u64 t, .slice a1 n1 c1, .slice a2 n2 c2]] X fun e w' => ∃ u, e = .returned u ∧ w'.ownsRow X.heap.size 5 1 u PB.length (encB PB) ∧ Below X.heap.size X w' := by
  rw [hPB.out]
  exact planBytesR_any h (layOk ok (right_facts rb))
theorem layK (ok : PnOk ⟨k, s, t, .slice a1 n1 c1, .slice a2 n2 c2, al, pl⟩) (rb : rightB ⟨k, s, t, .slice a1 n1 c1, .slice a2 n2 c2, al, pl⟩ = true) {W0 X : World} {PB : List Int} (hPB : Hid (PB = pB ⟨k, s, t, .slice a1 n1 c1, .slice a2 n2 c2, al, pl⟩)) (h : PnAt W0 ⟨k, s, t, .slice a1 n1 c1, .slice a2 n2 c2, al, pl⟩) {b base : Nat} {v : Value} {p : List Int} (hW0 : Below W0.heap.size W0 X) (hb : W0.heap.size ≤ b) (hb0 : W0.heap.size ≤ base) (hW : WrAt X b base v p) (hbase : base ≤ X.heap.size) (hl : p.length + 20000 ≤ 1048576) :
    Calls Try.prog 17 #[.pointer (some ⟨b, 0, none⟩), .agg #[.int .u8 k, .int .u64 s, .int .u64 t, .slice a1 n1 c1, .slice a2 n2 c2]] X fun e w' => e = .returned (.tuple #[]) ∧ ∃ v', WrAt w' b base v' (p ++ PB) ∧ WF X w' b v v' := by
  rw [hPB.out]
  exact planLay_any (x := ⟨k, s, t, .slice a1 n1 c1, .slice a2 n2 c2, al, pl⟩) h (layOk ok (right_facts rb)) hW0 hb hb0 hW hbase hl
end
theorem sameQ {X : World} {u v : Value} {Q : List Int} {lo lo' : Nat} (hl : Q.length ≤ 10000) (ho : X.ownsRow lo 5 1 u Q.length (encB Q)) (ho' : X.ownsRow lo' 5 1 v Q.length (encB Q)) :
    Calls Try.prog 20 #[u, v] X fun e w' => e = .returned (.bool true) ∧ Below X.heap.size X w' := by
  have := same_any X (own_bytes (Nat.le_trans hl (by decide)) ho) (own_bytes (Nat.le_trans hl (by decide)) ho')
  rw [decide_eq_true (rfl : Q = Q)] at this
  exact this
theorem endK {X : World} {b : Nat} {D : Option Nat} (h : RdAt X b D (some [])) :
    Calls Try.prog 27 #[.pointer (some ⟨b, 0, none⟩)] X fun e w' => e = .returned (.bool true) ∧ w' = X := rEnd_any h
end Go.Proofs.Ytjhjgncnadhbhaa
