
/- jointurelaw05.does: a deed, of both stores. -/
import Derived.Test.YthajolagpnakkaaO21
import Derived.Deep.CutRange
set_option linter.unusedSimpArgs false
set_option linter.unusedVariables false
namespace Go.Proofs.Ythajolagpnakkaa
open Go.RowKit

/-- What a deed makes of what there is. -/
def stepL (d : Int) (k v : List Int) (L : List (List Int × List Int)) (ds : List (List (List Int × List Int))) : List (List Int × List Int) :=
  if d % 8 < 3 then putS L k v else if d % 8 = 3 then dropS L k else if d % 8 = 7 then ds.getLastD L else L
/-- What a deed makes of what was when each part began. -/
def stepD (d : Int) (L : List (List Int × List Int)) (ds : List (List (List Int × List Int))) : List (List (List Int × List Int)) :=
  if d % 8 < 4 then ds else if d % 8 < 6 then ds ++ [L] else ds.dropLast
/-- Whether both answer alike. -/
def ansD (d : Int) (ds ds2 : List (List (List Int × List Int))) : Bool := if d % 8 < 6 then true else (ds.isEmpty == ds2.isEmpty)
/-- What two stores leave: nothing that was there has turned but what is theirs; they have nothing in common. -/
structure Fr2 (W W' : World) (A B A' B' : Nat → Prop) : Prop where
  os : W'.os = W.os
  tape : W'.tape = W.tape
  output : W'.output = W.output
  size : W.heap.size ≤ W'.heap.size
  block : ∀ k, k < W.heap.size → ¬ A k → ¬ B k → W'.heap[k]? = W.heap[k]?
  suba : ∀ k, A' k → A k ∨ W.heap.size ≤ k
  subb : ∀ k, B' k → B k ∨ W.heap.size ≤ k
  dis : ∀ k, A' k → ¬ B' k
theorem Fr2.mk2 {W W1 W2 W3 : World} {A A' B B1 B' : Nat → Prop} (hb : Below W.heap.size W W1) (h1 : Fr W1 W2 A A') (h2 : Fr W2 W3 B1 B') (hA' : ∀ k, A' k → k < W2.heap.size) (hB : ∀ k, B k → k < W.heap.size) (hB1 : ∀ k, B1 k → B k ∨ (W.heap.size ≤ k ∧ k < W1.heap.size)) (hAB : ∀ k, A k → ¬ B k) (hA : ∀ k, A k → k < W.heap.size) : Fr2 W W3 A B A' B' := by
  have s1 := hb.size
  have s2 := h1.size
  refine ⟨h2.os.trans (h1.os.trans hb.os), h2.tape.trans (h1.tape.trans hb.tape), h2.output.trans (h1.output.trans hb.output), Nat.le_trans s1 (Nat.le_trans s2 h2.size), fun k hk nA nB => ?_, fun k hk => ?_, fun k hk => ?_, fun k ha hb' => ?_⟩
  · refine (h2.block k (by omega) (fun h => ?_)).trans ((h1.block k (by omega) nA).trans (hb.block k hk))
    rcases hB1 k h with h | h
    · exact nB h
    · omega
  · exact (h1.sub k hk).imp id (fun h => by omega)
  · rcases h2.sub k hk with h | h
    · exact (hB1 k h).imp id (fun h => h.1)
    · exact .inr (by omega)
  · have l2 := hA' k ha
    rcases h2.sub k hb' with h | h
    · rcases hB1 k h with h3 | h3
      · rcases h1.sub k ha with h4 | h4
        · exact hAB k h4 h3
        · have := hB k h3; omega
      · rcases h1.sub k ha with h4 | h4
        · have := hA k h4; omega
        · omega
    · omega
theorem Fr2.below {W W' : World} {A B : Nat → Prop} (hb : Below W.heap.size W W') (hAB : ∀ k, A k → ¬ B k) : Fr2 W W' A B A B :=
  ⟨hb.os, hb.tape, hb.output, hb.size, fun k hk _ _ => hb.block k hk, fun _ h => .inl h, fun _ h => .inl h, hAB⟩
theorem Fr2.trans {U V W : World} {A B A1 B1 A2 B2 : Nat → Prop} (h : Fr2 U V A B A1 B1) (k : Fr2 V W A1 B1 A2 B2) : Fr2 U W A B A2 B2 := by
  have s1 := h.size
  refine ⟨k.os.trans h.os, k.tape.trans h.tape, k.output.trans h.output, Nat.le_trans h.size k.size, fun n hn nA nB => (k.block n (by omega) (fun h1 => ?_) (fun h1 => ?_)).trans (h.block n hn nA nB), fun n hn => ?_, fun n hn => ?_, k.dis⟩
  · rcases h.suba n h1 with h2 | h2
    · exact nA h2
    · omega
  · rcases h.subb n h1 with h2 | h2
    · exact nB h2
    · omega
  · rcases k.suba n hn with h2 | h2
    · exact h.suba n h2
    · exact .inr (by omega)
  · rcases k.subb n hn with h2 | h2
    · exact h.subb n h2
    · exact .inr (by omega)
theorem Fr2.out {w W W' : World} {A B A' B' : Nat → Prop} (h : Below w.heap.size w W) (k : Fr2 W W' A B A' B') (hA : ∀ n, A n → w.heap.size ≤ n) (hB : ∀ n, B n → w.heap.size ≤ n) : Below w.heap.size w W' :=
  ⟨k.os.trans h.os, k.tape.trans h.tape, k.output.trans h.output, Nat.le_trans h.size k.size, fun n hn => (k.block n (Nat.lt_of_lt_of_le hn h.size) (fun e => by have := hA n e; omega) (fun e => by have := hB n e; omega)).trans (h.block n hn)⟩
/-- Behind both copies: the deed as it was boxed, and the copies' rows. -/
structure JJ (U X : World) (b : Nat) (d : Int) (uk uv kv vv : Value) (k v : List Int) : Prop where
  below : Below U.heap.size U X
  box : X.heap[b]? = some (.cells #[.int .u8 d, uk, uv] 35 (0, 0))
  kr : X.ownsRow U.heap.size 5 1 kv k.length (encB k)
  vr : X.ownsRow U.heap.size 5 1 vv v.length (encB v)
section
variable {w0 W : World} {s m base base' : Nat} {A B : Nat → Prop} {L L2 : List (List Int × List Int)} {ds ds2 : List (List (List Int × List Int))} {n n2 : Nat} {uk uv : Value} {k v : List Int} {d : Int}
theorem opt_ne {a b : Nat} (h : a ≠ b) : some a ≠ some b := fun e => h (Option.some.inj e)
theorem row_cap {X : World} {b k : Nat} {e : TypeId} {size : Nat} {u : Value} {xs : List Value} (h : X.ownsRow b e size u k xs) : ∀ a n c, u = .slice a n c → n ≤ c := fun a n c hu => by
  rcases h.2 with ⟨rfl, -⟩ | ⟨g, cap, cur, rfl, -, -, h3, -⟩
  · cases hu; exact Nat.le_refl _
  · cases hu; exact h3
/-- m.Set behind s's turn: both copies become the reference's. -/
theorem mset {U X Y : World} {b : Nat} {kv vv vv2 : Value} {v2 : List Int} (is : Bool) (hR : RD U m base' B L2 ds2 n2) (hn : n2 ≤ 1000) (hU : base' ≤ U.heap.size) (hA : ∀ k, A k → k < U.heap.size) (hAB : ∀ k, A k → ¬ B k) (hj : JJ U X b d uk uv kv vv k v) (hk : Byte k) (hv2 : Byte v2) (hkl : k.length ≤ 1048576) (hvl : v2.length ≤ 1048576) {A' : Nat → Prop} (hf : Fr X Y A A')
    (h2 : (vv2 = .slice none 0 0 ∧ v2 = []) ∨ (vv2 = vv ∧ v2 = v)) :
    Calls Try.prog 34 #[.pointer (some ⟨m, 0, none⟩), kv, vv2, .bool is] Y fun e w' => e = .returned (.tuple #[]) ∧ ∃ B', RD w' m base' B' (if is then putS L2 k v2 else dropS L2 k) ds2 (n2 + 1) ∧ Fr Y w' (fun g => B g ∨ (kv.ownBlock = some g ∨ vv2.ownBlock = some g)) B' := by
  have hX := hR.below hj.below
  have sX := hj.below.size
  have hY : RD Y m base' B L2 ds2 n2 := hX.kept (fun g hg => hf.block g (hX.foot g hg).2 (fun ha => hAB g ha hg)) hf.size
  have keepR : ∀ {u : Value} {q : List Int}, X.ownsRow U.heap.size 5 1 u q.length (encB q) → Y.ownsRow U.heap.size 5 1 u q.length (encB q) := fun h => row_keep h (fun g hg => hf.block g (h.lt g hg).2 (fun ha => by have := hA g ha; have := (h.lt g hg).1; omega))
  have kr := keepR hj.kr
  have hvv : IsBytes Y vv2 v2 ∧ ∀ g, vv2.ownBlock = some g → U.heap.size ≤ g ∧ g < Y.heap.size := by
    rcases h2 with ⟨rfl, rfl⟩ | ⟨rfl, rfl⟩
    · exact ⟨.inl ⟨rfl, _, _, rfl⟩, fun g hg => by simp [Value.ownBlock] at hg⟩
    · exact ⟨own_bytes (by omega) (keepR hj.vr), fun g hg => (keepR hj.vr).lt g hg⟩
  refine rdSet (x := ⟨kv, vv2, k, v2⟩) is hY hn ⟨own_bytes (by simp; omega) kr, hvv.1, hk, hv2, hkl, hvl, row_cap kr⟩ (fun g hg => ?_)
  have hg' : U.heap.size ≤ g ∧ g < Y.heap.size := by
    rcases hg with hg | hg
    · exact kr.lt g hg
    · exact hvv.2 g hg
  exact ⟨fun hb => by have := (hR.foot g hb).2; omega, by omega, hg'.2⟩
end
/-- Both behind a deed: s's turn first, then m's. -/
theorem fin2 {W wc w4 w5 : World} {s base : Nat} {A A4 B B1 B5 : Nat → Prop} {L : List (List Int × List Int)} {ds : List (List (List Int × List Int))} {n : Nat} (hb : Below W.heap.size W wc) (f4 : Fr wc w4 A A4) (f5 : Fr w4 w5 B1 B5) (h4 : StD w4 s base A4 L ds n) (hB : ∀ k, B k → k < W.heap.size) (hB1 : ∀ k, B1 k → B k ∨ (W.heap.size ≤ k ∧ k < wc.heap.size)) (hAB : ∀ k, A k → ¬ B k) (hA : ∀ k, A k → k < W.heap.size) : StD w5 s base A4 L ds n ∧ Fr2 W w5 A B A4 B5 := by
  have s1 := hb.size
  refine ⟨h4.kept (fun k hk => f5.block k (h4.foot k hk).2 (fun h1 => ?_)) f5.size, Fr2.mk2 hb f4 f5 (fun k hk => (h4.foot k hk).2) hB hB1 hAB hA⟩
  rcases hB1 k h1 with h2 | h2
  · rcases f4.sub k hk with h3 | h3
    · exact hAB k h3 h2
    · have := hB k h2; omega
  · rcases f4.sub k hk with h3 | h3
    · have := hA k h3; omega
    · omega
section
variable {W : World} {s base : Nat} {A : Nat → Prop} {L : List (List Int × List Int)} {ds : List (List (List Int × List Int))} {n : Nat}
theorem snoc_or (ds : List (List (List Int × List Int))) : ds = [] ∨ ∃ c x, ds = c ++ [x] := by
  by_cases h : ds = []
  · exact .inl h
  · exact .inr ⟨ds.dropLast, ds.getLast h, (List.dropLast_concat_getLast h).symm⟩
theorem stdCom_all (h : StD W s base A L ds n) (hn : n ≤ 1000) : Calls Try.prog 20 #[.pointer (some ⟨s, 0, none⟩)] W fun e w' => e = .returned (.bool (!ds.isEmpty)) ∧ ∃ A', StD w' s base A' L ds.dropLast (n + 1) ∧ Fr W w' A A' := by
  rcases snoc_or ds with rfl | ⟨c, x, rfl⟩
  · refine (stdCommit_none h).mono ?_
    rintro e w' ⟨rfl, rfl⟩
    exact ⟨rfl, A, h.up (by omega), Fr.below (Below.refl _ _)⟩
  · refine (stdCommit h hn).mono ?_
    rintro e w' ⟨rfl, A', h1, h2⟩
    exact ⟨by simp, A', by simpa using h1, h2⟩
theorem stdRoll_all (h : StD W s base A L ds n) (hn : n ≤ 1000) : Calls Try.prog 21 #[.pointer (some ⟨s, 0, none⟩)] W fun e w' => e = .returned (.bool (!ds.isEmpty)) ∧ ∃ A', StD w' s base A' (ds.getLastD L) ds.dropLast (n + 1) ∧ Fr W w' A A' := by
  rcases snoc_or ds with rfl | ⟨c, x, rfl⟩
  · refine (stdRoll_none h).mono ?_
    rintro e w' ⟨rfl, rfl⟩
    exact ⟨rfl, A, h.up (by omega), Fr.below (Below.refl _ _)⟩
  · refine (stdRoll h hn).mono ?_
    rintro e w' ⟨rfl, A', h1, h2⟩
    exact ⟨by simp, A', by simpa using h1, h2⟩
theorem RD.up (h : RD W s base A L ds n) {n' : Nat} (hn : n ≤ n') : RD W s base A L ds n' := by
  obtain ⟨C, vl, vw, ws, l, was, h1, h2, h3, h4, h5, h6, h7⟩ := h
  exact ⟨C, vl, vw, ws, l, was, h1, h2, h3, h4, by omega, by omega, fun x hx => ⟨(h7 x hx).1, Nat.le_trans (h7 x hx).2 hn⟩⟩
theorem rdEnd_all (stay : Bool) (h : RD W s base A L ds n) (hn : n ≤ 1000) : Calls Try.prog 36 #[.pointer (some ⟨s, 0, none⟩), .bool stay] W fun e w' => e = .returned (.bool (!ds.isEmpty)) ∧ ∃ A', RD w' s base A' (if stay then L else ds.getLastD L) ds.dropLast (n + 1) ∧ Fr W w' A A' := by
  rcases snoc_or ds with rfl | ⟨c, x, rfl⟩
  · refine (rdEnd_none h).mono ?_
    rintro e w' ⟨rfl, rfl⟩
    refine ⟨rfl, A, ?_, Fr.below (Below.refl _ _)⟩
    have := h.up (n' := n + 1) (by omega)
    cases stay <;> exact this
  · refine (rdEnd (stay := stay) h hn).mono ?_
    rintro e w' ⟨rfl, A', h1, h2⟩
    exact ⟨by simp, A', by simpa using h1, h2⟩
end
set_option maxRecDepth 10000 in
set_option maxHeartbeats 8000000 in
theorem does_any {w0 W : World} {s m base base' : Nat} {A B : Nat → Prop} {L L2 : List (List Int × List Int)} {ds ds2 : List (List (List Int × List Int))} {n n2 : Nat} {uk uv : Value} {k v : List Int} {d : Int} (h : StD W s base A L ds n) (hR : RD W m base' B L2 ds2 n2) (hAB : ∀ k, A k → ¬ B k) (hn : n ≤ 1000) (hn2 : n2 ≤ 1000) (hw0 : Below w0.heap.size w0 W) (hb0 : w0.heap.size ≤ base) (hb' : base' ≤ W.heap.size) (hd : 0 ≤ d ∧ d ≤ 255) (hk : ArgB w0 uk k) (hv : ArgB w0 uv v) :
    Calls Try.prog 14 #[.pointer (some ⟨s, 0, none⟩), .pointer (some ⟨m, 0, none⟩), .agg #[.int .u8 d, uk, uv]] W fun e w' => e = .returned (.bool (ansD d ds ds2)) ∧ ∃ A' B', StD w' s base A' (stepL d k v L ds) (stepD d L ds) (n + 1) ∧ RD w' m base' B' (stepL d k v L2 ds2) (stepD d L2 ds2) (n2 + 1) ∧ Fr2 W w' A B A' B' := by
  have hkW := hk.below hw0
  have hvW := hv.below hw0
  obtain ⟨ka, kc, rfl⟩ := hk.isb.slice
  obtain ⟨va, vc, rfl⟩ := hv.isb.slice
  have hbx : Below W.heap.size W (W.alloc (.cells #[.int .u8 d, .slice ka k.length kc, .slice va v.length vc] 35)) := ba (Below.refl _ _) _
  have hblk : (W.alloc (.cells #[.int .u8 d, .slice ka k.length kc, .slice va v.length vc] 35)).heap[W.heap.size]? = some (.cells #[.int .u8 d, .slice ka k.length kc, .slice va v.length vc] 35 (0, 0)) := al_at rfl
  have hsz : (W.alloc (.cells #[.int .u8 d, .slice ka k.length kc, .slice va v.length vc] 35)).heap.size = W.heap.size + 1 := by simp
  obtain ⟨U, hU⟩ : ∃ U, U = W.alloc (.cells #[.int .u8 d, .slice ka k.length kc, .slice va v.length vc] 35) := ⟨_, rfl⟩
  rw [← hU] at hbx hblk hsz
  have hU' : Hid _ := hU
  have hD : Below U.heap.size U U.drew := bd (Below.refl _ _)
  have hJk : Hid (∀ X, Below U.heap.size U X → Calls Try.prog 31 #[.slice ka k.length kc, .slice none 0 0] X fun e w' => ∃ a c, e = .returned (.slice a k.length c) ∧ w'.ownsRow U.heap.size 5 1 (.slice a k.length c) k.length (encB k) ∧ Below X.heap.size X w') := fun X hX => by
    refine (join_any hk.len (hkW.src.kept (grown_none (hbx.trans (hX.mono hbx.size))))).mono ?_
    rintro e w' ⟨u', rfl, h1, h2⟩
    obtain ⟨a, c, rfl⟩ := row_slice h1
    exact ⟨a, c, rfl, row_base h1 hX.size, h2⟩
  have hJv : Hid (∀ X, Below U.heap.size U X → Calls Try.prog 31 #[.slice va v.length vc, .slice none 0 0] X fun e w' => ∃ a c, e = .returned (.slice a v.length c) ∧ w'.ownsRow U.heap.size 5 1 (.slice a v.length c) v.length (encB v) ∧ Below X.heap.size X w') := fun X hX => by
    refine (join_any hv.len (hvW.src.kept (grown_none (hbx.trans (hX.mono hbx.size))))).mono ?_
    rintro e w' ⟨u', rfl, h1, h2⟩
    obtain ⟨a, c, rfl⟩ := row_slice h1
    exact ⟨a, c, rfl, row_base h1 hX.size, h2⟩
  have hkeep : Hid (∀ X, Below U.heap.size U X → X.cell? ⟨W.heap.size, 1, none⟩ = some (.slice ka k.length kc) ∧ X.cell? ⟨W.heap.size, 2, none⟩ = some (.slice va v.length vc)) := fun X hX => by
    have hb := (hX.block W.heap.size (by omega)).trans hblk
    obtain ⟨c, -⟩ := cells_of_block hb
    exact ⟨c 1, c 2⟩
  go_enter Try.func14, Try.ntmps14
  go_upto_region 1 with fail
  rw [← hU]
  clear hU
  go_cut [7, 8] from 9 to 14 (fun s7 s8 wx => ∃ a c a2 c2, s7 = .slice a k.length c ∧ s8 = .slice a2 v.length c2 ∧ JJ U wx W.heap.size d (.slice ka k.length kc) (.slice va v.length vc) (.slice a k.length c) (.slice a2 v.length c2) k v)
  case first =>
    go_region_held2 (fun X => X.cell? ⟨W.heap.size, 1, none⟩ = some (.slice ka k.length kc) ∧ X.cell? ⟨W.heap.size, 2, none⟩ = some (.slice va v.length vc)) (exact hkeep.out _ (by assumption)) (first
      | (go_at_call 31; with_reducible refine (hJk.out _ (by assumption)).mono ?_; rintro e w1 ⟨a1, c1, rfl, okk, hb1⟩; (try have okv := none_row okv (grown_none hb1)); have hB1 := bt (by assumption) hb1)
      | (go_at_call 31; with_reducible refine (hJv.out _ (by assumption)).mono ?_; rintro e w2 ⟨a2, c2, rfl, okv, hb2⟩; (try have okk := none_row okk (grown_none hb2)); have hB2 := bt (by assumption) hb2))
    all_goals (go_wp2_with fail; go_meet)
    all_goals exact ⟨_, _, _, _, rfl, rfl, ⟨by assumption, (Below.block (by assumption) _ (by omega)).trans hblk, okk, okv⟩⟩
  case rest =>
    obtain ⟨a1, c1, a2, c2, rfl, rfl, hj⟩ := hcut
    obtain ⟨cb, fb⟩ := cells_of_block hj.box
    have hbW : Below W.heap.size W wc := hbx.trans (hj.below.mono hbx.size)
    have hS := h.below hbW
    have hRU := hR.below hbx
    have hRc := hR.below hbW
    have hA := fun g hg => (h.foot g hg).2
    have hBl := fun g hg => (hR.foot g hg).2
    have hkc := hkW.src.kept (grown_none hbW)
    have hvc := hvW.src.kept (grown_none hbW)
    have hko : k = [] ∨ ∀ g, (Value.slice ka k.length kc).ownBlock = some g → ¬ A g := hk.own.imp id (fun f g hg ha => by have := f g hg; have := (h.foot g ha).1; omega)
    have hvo : v = [] ∨ ∀ g, (Value.slice va v.length vc).ownBlock = some g → ¬ A g := hv.own.imp id (fun f g hg ha => by have := f g hg; have := (h.foot g ha).1; omega)
    have hdt : d.tmod 8 = d % 8 := Int.tmod_eq_emod_of_nonneg hd.1
    have hAU : ∀ g, A g → g < U.heap.size := fun g hg => by have := hA g hg; omega
    have hD1 : ∀ g, (B g ∨ ((Value.slice a1 k.length c1).ownBlock = some g ∨ (Value.slice a2 v.length c2).ownBlock = some g)) → B g ∨ (W.heap.size ≤ g ∧ g < wc.heap.size) := fun g hg => by
      rcases hg with hg | hg | hg
      · exact .inl hg
      · have := hj.kr.lt g hg; exact .inr ⟨by omega, this.2⟩
      · have := hj.vr.lt g hg; exact .inr ⟨by omega, this.2⟩
    have hD2 : ∀ g, (B g ∨ ((Value.slice a1 k.length c1).ownBlock = some g ∨ (Value.slice none 0 0).ownBlock = some g)) → B g ∨ (W.heap.size ≤ g ∧ g < wc.heap.size) := fun g hg => by
      rcases hg with hg | hg | hg
      · exact .inl hg
      · have := hj.kr.lt g hg; exact .inr ⟨by omega, this.2⟩
      · simp [Value.ownBlock] at hg
    have hKeep : ∀ {w4 : World} {A4 : Nat → Prop}, Fr wc w4 A A4 → RD w4 m base' B L2 ds2 n2 := fun f4 => hRc.kept (fun g hg => f4.block g (hRc.foot g hg).2 (fun ha => hAB g ha hg)) f4.size
    clear hJk hJv hkeep hD
    have hU2 : base' ≤ U.heap.size := by omega
    rcases (show d % 8 < 3 ∨ d % 8 = 3 ∨ (d % 8 = 4 ∨ d % 8 = 5) ∨ d % 8 = 6 ∨ d % 8 = 7 by omega) with hr | hr | hr | hr | hr
    · have eL : Hid (stepL d k v L ds = putS L k v) := by unfold Hid; simp [stepL, hr]
      have eL2 : Hid (stepL d k v L2 ds2 = putS L2 k v) := by unfold Hid; simp [stepL, hr]
      have eD : Hid (stepD d L ds = ds) := by unfold Hid; simp [stepD]; omega
      have eD2 : Hid (stepD d L2 ds2 = ds2) := by unfold Hid; simp [stepD]; omega
      have eA : Hid (ansD d ds ds2 = true) := by unfold Hid; simp [ansD]; omega
      have hC := stdSet hS hn hkc hvc hk.byt hv.byt hk.len hv.len hko hvo
      have hM : Hid (∀ (w4 : World) (A4 : Nat → Prop), Fr wc w4 A A4 → _) := fun w4 A4 f4 => mset true hRU hn2 hU2 hAU hAB hj hk.byt hv.byt hk.len hv.len f4 (.inr ⟨rfl, rfl⟩)
      obtain ⟨r, hrr⟩ : ∃ r, d.tmod 8 = r := ⟨_, rfl⟩
      have hr3 : r = 0 ∨ r = 1 ∨ r = 2 := by omega
      clear hr hdt
      rcases hr3 with rfl | rfl | rfl
      all_goals
        go_wp2_with (first
          | (go_at_call 32; refine hC.mono ?_; rintro e4 w4 ⟨rfl, A4, h4, f4⟩; have hM4 := hM.out _ _ f4)
          | (go_at_call 34; refine hM4.mono ?_; rintro e5 w5 ⟨rfl, B5, h5, f5⟩))
        go_ret
        obtain ⟨g1, g2⟩ := fin2 hbW f4 f5 h4 hBl hD1 hAB hA
        rw [eL.out, eL2.out, eD.out, eD2.out, eA.out]; exact ⟨rfl, A4, B5, g1, h5, g2⟩
    · have eL : Hid (stepL d k v L ds = dropS L k) := by unfold Hid; simp [stepL, hr]
      have eL2 : Hid (stepL d k v L2 ds2 = dropS L2 k) := by unfold Hid; simp [stepL, hr]
      have eD : Hid (stepD d L ds = ds) := by unfold Hid; simp [stepD]; omega
      have eD2 : Hid (stepD d L2 ds2 = ds2) := by unfold Hid; simp [stepD]; omega
      have eA : Hid (ansD d ds ds2 = true) := by unfold Hid; simp [ansD]; omega
      have hC := stdDel hS hn hkc hk.byt hk.len hko
      have hM : Hid (∀ (w4 : World) (A4 : Nat → Prop), Fr wc w4 A A4 → _) := fun w4 A4 f4 => mset (vv2 := .slice none 0 0) (v2 := []) false hRU hn2 hU2 hAU hAB hj hk.byt (by simp [Byte]) hk.len (by simp) f4 (.inl ⟨rfl, rfl⟩)
      have hrr : d.tmod 8 = 3 := by omega
      clear hr hdt
      go_wp2_with (first
        | (go_at_call 33; refine hC.mono ?_; rintro e4 w4 ⟨rfl, A4, h4, f4⟩; have hM4 := hM.out _ _ f4)
        | (go_at_call 34; refine hM4.mono ?_; rintro e5 w5 ⟨rfl, B5, h5, f5⟩))
      go_ret
      obtain ⟨g1, g2⟩ := fin2 hbW f4 f5 h4 hBl hD2 hAB hA
      rw [eL.out, eL2.out, eD.out, eD2.out, eA.out]; exact ⟨rfl, A4, B5, g1, h5, g2⟩
    · have eL : Hid (stepL d k v L ds = L) := by unfold Hid; unfold stepL; rw [if_neg (by omega), if_neg (by omega), if_neg (by omega)]
      have eL2 : Hid (stepL d k v L2 ds2 = L2) := by unfold Hid; unfold stepL; rw [if_neg (by omega), if_neg (by omega), if_neg (by omega)]
      have eD : Hid (stepD d L ds = ds ++ [L]) := by unfold Hid; unfold stepD; rw [if_neg (by omega), if_pos (by omega)]
      have eD2 : Hid (stepD d L2 ds2 = ds2 ++ [L2]) := by unfold Hid; unfold stepD; rw [if_neg (by omega), if_pos (by omega)]
      have eA : Hid (ansD d ds ds2 = true) := by unfold Hid; simp [ansD]; omega
      have hC := stdBegin hS hn
      have hM : Hid (∀ (w4 : World) (A4 : Nat → Prop), Fr wc w4 A A4 → _) := fun w4 A4 f4 => rdBegin (hKeep f4) hn2
      obtain ⟨r, hrr⟩ : ∃ r, d.tmod 8 = r := ⟨_, rfl⟩
      have hr3 : r = 4 ∨ r = 5 := by omega
      clear hr hdt
      rcases hr3 with rfl | rfl
      all_goals
        go_wp2_with (first
          | (go_at_call 19; refine hC.mono ?_; rintro e4 w4 ⟨rfl, A4, h4, f4⟩; have hM4 := hM.out _ _ f4)
          | (go_at_call 35; refine hM4.mono ?_; rintro e5 w5 ⟨rfl, B5, h5, f5⟩))
        go_ret
        obtain ⟨g1, g2⟩ := fin2 hbW f4 f5 h4 hBl (fun g hg => .inl hg) hAB hA
        rw [eL.out, eL2.out, eD.out, eD2.out, eA.out]; exact ⟨rfl, A4, B5, g1, h5, g2⟩
    · have eL : Hid (stepL d k v L ds = L) := by unfold Hid; unfold stepL; rw [if_neg (by omega), if_neg (by omega), if_neg (by omega)]
      have eL2 : Hid (stepL d k v L2 ds2 = L2) := by unfold Hid; unfold stepL; rw [if_neg (by omega), if_neg (by omega), if_neg (by omega)]
      have eD : Hid (stepD d L ds = ds.dropLast) := by unfold Hid; unfold stepD; rw [if_neg (by omega), if_neg (by omega)]
      have eD2 : Hid (stepD d L2 ds2 = ds2.dropLast) := by unfold Hid; unfold stepD; rw [if_neg (by omega), if_neg (by omega)]
      have eA : Hid (ansD d ds ds2 = (ds.isEmpty == ds2.isEmpty)) := by unfold Hid ansD; rw [if_neg (by omega)]
      have hC := stdCom_all hS hn
      have hM : Hid (∀ (w4 : World) (A4 : Nat → Prop), Fr wc w4 A A4 → _) := fun w4 A4 f4 => rdEnd_all true (hKeep f4) hn2
      have hrr : d.tmod 8 = 6 := by omega
      clear hr hdt
      go_wp2_with (first
        | (go_at_call 20; refine hC.mono ?_; rintro e4 w4 ⟨rfl, A4, h4, f4⟩; have hM4 := hM.out _ _ f4)
        | (go_at_call 36; refine hM4.mono ?_; rintro e5 w5 ⟨rfl, B5, h5, f5⟩))
      go_ret
      obtain ⟨g1, g2⟩ := fin2 hbW f4 f5 h4 hBl (fun g hg => .inl hg) hAB hA
      rw [eL.out, eL2.out, eD.out, eD2.out, eA.out]
      refine ⟨?_, A4, B5, g1, by simpa using h5, g2⟩
      cases ds.isEmpty <;> cases ds2.isEmpty <;> rfl
    · have eL : Hid (stepL d k v L ds = ds.getLastD L) := by unfold Hid; unfold stepL; rw [if_neg (by omega), if_neg (by omega), if_pos hr]
      have eL2 : Hid (stepL d k v L2 ds2 = ds2.getLastD L2) := by unfold Hid; unfold stepL; rw [if_neg (by omega), if_neg (by omega), if_pos hr]
      have eD : Hid (stepD d L ds = ds.dropLast) := by unfold Hid; unfold stepD; rw [if_neg (by omega), if_neg (by omega)]
      have eD2 : Hid (stepD d L2 ds2 = ds2.dropLast) := by unfold Hid; unfold stepD; rw [if_neg (by omega), if_neg (by omega)]
      have eA : Hid (ansD d ds ds2 = (ds.isEmpty == ds2.isEmpty)) := by unfold Hid ansD; rw [if_neg (by omega)]
      have hC := stdRoll_all hS hn
      have hM : Hid (∀ (w4 : World) (A4 : Nat → Prop), Fr wc w4 A A4 → _) := fun w4 A4 f4 => rdEnd_all false (hKeep f4) hn2
      have hrr : d.tmod 8 = 7 := by omega
      clear hr hdt
      go_wp2_with (first
        | (go_at_call 21; refine hC.mono ?_; rintro e4 w4 ⟨rfl, A4, h4, f4⟩; have hM4 := hM.out _ _ f4)
        | (go_at_call 36; refine hM4.mono ?_; rintro e5 w5 ⟨rfl, B5, h5, f5⟩))
      go_ret
      obtain ⟨g1, g2⟩ := fin2 hbW f4 f5 h4 hBl (fun g hg => .inl hg) hAB hA
      rw [eL.out, eL2.out, eD.out, eD2.out, eA.out]
      refine ⟨?_, A4, B5, g1, by simpa using h5, g2⟩
      cases ds.isEmpty <;> cases ds2.isEmpty <;> rfl
end Go.Proofs.Ythajolagpnakkaa
