
/- jointurelaw04.lay: what holds all through it. -/
import Derived.Test.YtoikklbnbgoecaaG19
import Derived.Test.YtoikklbnbgoecaaG20
set_option linter.unusedSimpArgs false
set_option linter.unusedVariables false
namespace Go.Proofs.Ytoikklbnbgoecaa
open Go.RowKit

/-- The append law for one operation of a region, with where the new row lies. -/
theorem wp_append_own_at {P : Program} (w : World) {o : Oper} {a : Act} {K : Act → World → Prop} {Q : Exit → Act → World → Prop} (s x : Operand) (t : TypeId)
    (ho : o.op = .call { callee := .builtin .append, args := #[s, x], argTypes := #[t, t] })
    (base : Nat) (e : TypeId) (i : TypeInfo) (z : Value) (size bytes : Nat) (ht : P.underlying t = some (.slice e)) (hi : P.info? e = some i) (hz : i.zero = some z)
    (hsize : i.size = size) (hby : i.bytes = bytes) (hzs : z.cells.size = size) (hsz : 0 < size)
    (v : Value) (n : Nat) (xs : List Value) (hs : a.eval s = v) (hown : w.ownsRow base e size v n xs)
    (ad : Addr) (m c : Nat) (news : List Value) (hx : a.eval x = .slice (some ad) m c) (hl : news.length = m * size) (hnews : ∀ j u, news[j]? = some u → w.cell? (ad.add j) = some u) (h1 : ∀ u ∈ news, u.oneCell' = true)
    (h63 : n + m ≤ maxLen) (hbytes : (n + m) * bytes ≤ 140737488355328) (hbase : base ≤ w.heap.size)
    (h : ∀ v' w', w'.ownsRow base e size v' (n + m) (xs ++ news) → w.grownBy w' v.ownBlock → (v' = .slice none 0 0 ↔ v = .slice none 0 0 ∧ m = 0) → (v'.ownBlock = v.ownBlock ∨ v'.ownBlock = some w.heap.size) → K (a.put o.dst v') w') : o.wp P a w K Q := by
  obtain ⟨v', w', hr, h2, h3, h4, h5⟩ := run_append_own_at (P := P) w base t o.type e i z size bytes ht hi hz hsize hby hzs hsz v n xs hown ad m c news hl hnews h1 h63 hbytes hbase
  unfold Oper.wp execOp
  simp only [ho, resolve, invoke, builtin, Sem.run_bind, Sem.run_pure, Result.andThen_ok, List.map_toArray, List.map_cons, List.map_nil, hs, hx, hr]
  exact h v' w' h2 h3 h4 h5

/-- What holds all through a lay: the writer in block b has p, the list u has q, apart from one another; the part lies in block c; ys: bytes that were made to be appended; zs: coins that were made; nothing that was there at first has turned. -/
structure LJ (w0 W : World) (b c : Nat) (cs : Array Value) (L : List Cn) (v u : Value) (p q : List Int) (ys : Option (Value × List Int)) (zs : List Value) : Prop where
  wr : WrAt W b w0.heap.size v p
  row : W.ownsRow w0.heap.size 5 1 u q.length (encB q)
  apart : u.ownBlock = none ∨ u.ownBlock ≠ v.ownBlock
  blk : W.heap[c]? = some (.cells cs 36 (0, 0))
  src : ∀ y l, ys = some (y, l) → W.ownsRow w0.heap.size 5 1 y l.length (encB l) ∧ (y.ownBlock = none ∨ y.ownBlock ≠ v.ownBlock)
  coins : ∀ z ∈ zs, W.ownsRow w0.heap.size 74 5 z L.length (cellsL L)
  below : Below w0.heap.size w0 W
  bb : w0.heap.size ≤ b

theorem rows_apart {W : World} {base base' : Nat} {e e' : TypeId} {s s' n n' : Nat} {v u : Value} {xs ys : List Value} (h : W.ownsRow base e s v n xs) (k : W.ownsRow base' e' s' u n' ys) (hne : e ≠ e') : v.ownBlock = none ∨ v.ownBlock ≠ u.ownBlock := by
  rcases h.2 with ⟨rfl, _⟩ | ⟨g, cap, cur, rfl, _, hgb, _⟩
  · exact .inl rfl
  · exact .inr (not_row hgb hne k)
theorem ne_own {W : World} {B : Nat} {c : Array Value} {t e : TypeId} (h : W.heap[B]? = some (.cells c t (0, 0))) (hte : t ≠ e) {base size k : Nat} {v : Value} {xs : List Value} (hr : W.ownsRow base e size v k xs) : v.ownBlock ≠ some B := fun e => not_row h hte hr e.symm

section
variable {w0 W : World} {b c : Nat} {cs : Array Value} {L : List Cn} {v u : Value} {p q : List Int} {ys : Option (Value × List Int)} {zs : List Value}
theorem LJ.le (h : LJ w0 W b c cs L v u p q ys zs) : w0.heap.size ≤ W.heap.size := h.below.size
theorem LJ.grow {W' : World} (h : LJ w0 W b c cs L v u p q ys zs) (hg : W.grownBy W' none) : LJ w0 W' b c cs L v u p q ys zs where
  wr := h.wr.kept hg (by simp) (by cases v.ownBlock <;> simp)
  row := none_row h.row hg
  apart := h.apart
  blk := (hg.block c (Array.getElem?_eq_some_iff.1 h.blk).1 (by simp)).trans h.blk
  src := fun y l e => ⟨none_row (h.src y l e).1 hg, (h.src y l e).2⟩
  coins := fun z hz => none_row (h.coins z hz) hg
  below := h.below.grown hg h.le (by simp)
  bb := h.bb
theorem LJ.drew (h : LJ w0 W b c cs L v u p q ys zs) : LJ w0 W.drew b c cs L v u p q ys zs := h.grow (grown_dr (grown_ref _ _))
theorem new_apart {W' : World} {base e s n : Nat} {v v' u : Value} {xs : List Value} (hu : W.ownsRow base e s u n xs) (ha : u.ownBlock = none ∨ u.ownBlock ≠ v.ownBlock) (hF : WF W W' b v v') : u.ownBlock = none ∨ u.ownBlock ≠ v'.ownBlock := by
  rcases ha with ha | ha
  · exact .inl ha
  · rcases hF.own with e | ⟨g, e, hg⟩
    · rw [e]; exact .inr ha
    · rw [e]; right; intro e2; have := (hu.lt g e2).2; omega
theorem LJ.write {W' : World} {v' : Value} {p' : List Int} (h : LJ w0 W b c cs L v u p q ys zs) (hF : WF W W' b v v') (hW : WrAt W' b w0.heap.size v' p') : LJ w0 W' b c cs L v' u p' q ys zs where
  wr := hW
  row := hF.row h.row (ne_own h.wr.1 (by decide) h.row) h.apart
  apart := new_apart h.row h.apart hF
  blk := (hF.block c (Array.getElem?_eq_some_iff.1 h.blk).1 (fun e => by have h1 := h.blk; have h2 := h.wr.1; rw [e, h2] at h1; simp at h1) (not_row h.blk (by decide) h.wr.2)).trans h.blk
  src := fun y l e => ⟨hF.row (h.src y l e).1 (ne_own h.wr.1 (by decide) (h.src y l e).1) (h.src y l e).2, new_apart (h.src y l e).1 (h.src y l e).2 hF⟩
  coins := fun z hz => hF.row (h.coins z hz) (ne_own h.wr.1 (by decide) (h.coins z hz)) (rows_apart (h.coins z hz) h.wr.2 (by decide))
  below := WF.below h.below hF h.wr h.bb (Nat.le_refl _)
  bb := h.bb
/-- Bytes are made. -/
theorem LJ.make {W' : World} {y : Value} {l : List Int} (h : LJ w0 W b c cs L v u p q none zs) (hb : Below W.heap.size W W') (ho : W'.ownsRow W.heap.size 5 1 y l.length (encB l)) : LJ w0 W' b c cs L v u p q (some (y, l)) zs := by
  have h' := h.grow (grown_none hb)
  refine { h' with src := ?_ }
  intro y' l' e
  simp at e
  obtain ⟨rfl, rfl⟩ := e
  refine ⟨row_base ho h.le, ?_⟩
  cases e : y.ownBlock with
  | none => exact .inl rfl
  | some g =>
    right
    intro e2
    have := (ho.lt g e).1
    have := (h.wr.2.lt g e2.symm).2
    omega
/-- Coins are made. -/
theorem LJ.coin {W' : World} {z : Value} (h : LJ w0 W b c cs L v u p q ys zs) (hb : Below W.heap.size W W') (ho : W'.ownsRow W.heap.size 74 5 z L.length (cellsL L)) : LJ w0 W' b c cs L v u p q ys (z :: zs) := by
  have h' := h.grow (grown_none hb)
  refine { h' with coins := ?_ }
  intro z' hz'
  rcases List.mem_cons.1 hz' with rfl | hz'
  · exact row_base ho h.le
  · exact h'.coins z' hz'
theorem LJ.app {y : Value} {l : List Int} (h : LJ w0 W b c cs L v u p q (some (y, l)) zs) (hl0 : 0 < l.length) (hl : q.length + l.length ≤ 1048576) {o : Oper} {a : Act} {K : Act → World → Prop} {Q : Exit → Act → World → Prop} (s x : Operand)
    (ho : o.op = .call { callee := .builtin .append, args := #[s, x], argTypes := #[26, 26] }) (hs : a.eval s = u) (hx : a.eval x = y)
    (k : ∀ u' w', LJ w0 w' b c cs L v u' p (q ++ l) none zs → K (a.put o.dst u') w') : o.wp Try.prog a W K Q := by
  obtain ⟨i0, hi, hz0, hz1, hz2⟩ := info_parts u8_info
  obtain ⟨hy, -⟩ := h.src y l rfl
  rcases src_own hy with ⟨-, e⟩ | ⟨ad, cap, rfl, hc⟩
  · subst e; simp at hl0
  · refine wp_append_own_at W s x 26 ho w0.heap.size 5 i0 _ 1 1 Try.underlying26 hi hz0 hz1 hz2 rfl (by decide) u q.length (encB q) hs h.row ad l.length cap (encB l) hx (by simp [encB]) (fun j x hj => by simp only [encB, List.getElem?_map] at hj; obtain ⟨y, hy, rfl⟩ := Option.map_eq_some_iff.1 hj; exact hc j y hy) (by simp [encB, Value.oneCell']) (by unfold maxLen; omega) (by omega) h.le ?_
    intro u' w' hown hg _ hat
    refine k u' w' ⟨h.wr.kept hg (fun e => not_row h.wr.1 (by decide) h.row e) ?_, ?_, ?_, (hg.block c (Array.getElem?_eq_some_iff.1 h.blk).1 (not_row h.blk (by decide) h.row)).trans h.blk, fun y l e => by simp at e, fun z hz => (h.coins z hz).kept hg (rows_apart (h.coins z hz) h.row (by decide)), h.below.grown hg h.le (fun k hk => (h.row.lt k hk).1), h.bb⟩
    · cases e : v.ownBlock with
      | none => exact .inl rfl
      | some g =>
        right
        intro e2
        rcases h.apart with e3 | e3
        · rw [e3] at e2; simp at e2
        · exact e3 (e2.symm.trans e.symm)
    · rw [List.length_append, encB_app]; exact hown
    · rcases hat with e | e
      · rw [e]; exact h.apart
      · rw [e]; right; intro e2; have := (h.wr.2.lt _ e2.symm).2; omega
end
end Go.Proofs.Ytoikklbnbgoecaa
