
/- Several texts, one behind the other: PO3, PO4, PO5, PO6, PO7, PO8, PO9, PO10, PO11. -/
import Derived.Test.YtafcianpajheiaaPQ4
import Derived.Deep.CutRange
import Derived.Maps.AppendAt
/- pool: a validator is laid. -/
set_option linter.unusedSimpArgs false
set_option linter.unusedVariables false
set_option maxRecDepth 20000
namespace Go.Proofs.Ytafcianpajheiaa
open Go.RowKit

/-- A list of coins that a writer doesn't own. -/
structure Far (W : World) (b : Nat) (v u : Value) (L : List Cn) : Prop where
  is : IsCoins W u L
  far : L ≠ [] → (∀ g, u.ownBlock = some g → g < W.heap.size) ∧ u.ownBlock ≠ some b ∧ (u.ownBlock = none ∨ u.ownBlock ≠ v.ownBlock)
theorem Far.step {W X : World} {b : Nat} {v v' u : Value} {L : List Cn} (h : Far W b v u L) (hF : WF W X b v v') : Far X b v' u L := by
  by_cases hL : L = []
  · refine ⟨?_, fun h => absurd hL h⟩
    rcases h.is with h | ⟨_, _, _, _, hne, _⟩
    · exact .inl h
    · exact absurd hL hne
  · obtain ⟨h1, h2, h3⟩ := h.far hL
    have hh := coins_wf h.is h1 h2 h3 hF
    exact ⟨hh.1, fun _ => ⟨fun g hg => Nat.lt_of_lt_of_le (h1 g hg) hF.size, h2, hh.2⟩⟩
theorem Far.of {W X : World} {b : Nat} {u : Value} {L : List Cn} (h : IsCoins W u L) (hb : W.heap.size ≤ b) (hX : Below W.heap.size W X) : Far X b (.slice none 0 0) u L := by
  refine ⟨h.below hX, fun hL => ?_⟩
  rcases h with ⟨e, -⟩ | ⟨blk, off, cap, rfl, -, -, hlt, -⟩
  · exact absurd e hL
  · refine ⟨fun g hg => ?_, fun e => ?_, .inr (by simp [Value.ownBlock])⟩
    · simp [Value.ownBlock] at hg; subst hg; exact Nat.lt_of_lt_of_le hlt hX.size
    · simp [Value.ownBlock] at e; omega
theorem wCoinsF {W : World} {b base : Nat} {v u : Value} {p : List Int} {L : List Cn} (hW : WrAt W b base v p) (hbase : base ≤ W.heap.size) (hwf : ∀ x ∈ L, CnWf x) (hr : rightFrom 0 L = true) (hl : p.length + 9000 ≤ 1048576) (hu : Far W b v u L) :
    Calls Try.prog 37 #[.pointer (some ⟨b, 0, none⟩), u] W fun e w' => e = .returned (.pointer (some ⟨b, 0, none⟩)) ∧ ∃ v', WrAt w' b base v' (p ++ coB L) ∧ WF W w' b v v' :=
  wCoinsI_any hW hbase hwf (by have := right_len hr; omega) hl hu.is (fun h => (hu.far h).2.1) (fun h => (hu.far h).2.2)
theorem wNumF {W : World} {b base : Nat} {v : Value} {p : List Int} (x0 x1 x2 x3 : Int) (hx : Lim x0 x1 x2 x3) (hW : WrAt W b base v p) (hbase : base ≤ W.heap.size) (hl : p.length + 33 ≤ 1048576) :
    Calls Try.prog 36 #[.pointer (some ⟨b, 0, none⟩), .agg #[.int .u64 x0, .int .u64 x1, .int .u64 x2, .int .u64 x3]] W fun e w' => e = .returned (.pointer (some ⟨b, 0, none⟩)) ∧ ∃ v', WrAt w' b base v' (p ++ layN (val x0 x1 x2 x3)) ∧ WF W w' b v v' := wNum_any x0 x1 x2 x3 hx hW hbase hl
theorem wFlagF {W : World} {b base : Nat} {v : Value} {p : List Int} (is : Bool) (hW : WrAt W b base v p) (hbase : base ≤ W.heap.size) (hl : p.length + 1 ≤ 1048576) :
    Calls Try.prog 70 #[.pointer (some ⟨b, 0, none⟩), .bool is] W fun e w' => e = .returned (.pointer (some ⟨b, 0, none⟩)) ∧ ∃ v', WrAt w' b base v' (p ++ [flI is]) ∧ WF W w' b v v' := wFlag_any is hW hbase hl
set_option maxRecDepth 20000 in
set_option maxHeartbeats 8000000 in
theorem layVal_any {W : World} {b base : Nat} {v : Value} {p : List Int} {x : Vd} {id : Int} {a1 a2 : Option Addr} {c1 c2 : Nat} (hW : WrAt W b base v p) (hbase : base ≤ W.heap.size) (hl : p.length + 20000 ≤ 1048576) (hx : VOk x) (hI : Far W b v (.slice a1 x.ix.length c1) x.ix) (hE : Far W b v (.slice a2 x.er.length c2) x.er) :
    Calls Try.prog 49 #[.pointer (some ⟨b, 0, none⟩), .agg #[.int .u8 id, .int .u8 x.ow, .int .u16 x.rt, .bool x.jl, .int .u64 x.t0, .int .u64 x.t1, .int .u64 x.t2, .int .u64 x.t3, .int .u64 x.s0, .int .u64 x.s1, .int .u64 x.s2, .int .u64 x.s3, .slice a1 x.ix.length c1, .slice a2 x.er.length c2]] W fun e w' => e = .returned (.tuple #[]) ∧ ∃ v', WrAt w' b base v' (p ++ vB x) ∧ WF W w' b v v' := by
  have hi8 := coB_len hx.ir
  have he8 := coB_len hx.er
  obtain ⟨⟨o0, o1⟩, ⟨r0, r1⟩, ht, hs, iw, ir, ew, er'⟩ := hx
  obtain ⟨ow, rt, jl, t0, t1, t2, t3, s0, s1, s2, s3, ix, er⟩ := x
  simp only at o0 o1 r0 r1 ht hs iw ir ew er' hI hE hi8 he8 ⊢
  have hgA : W.grownBy (W.alloc (.cells #[.int .u8 id, .int .u8 ow, .int .u16 rt, .bool jl, .int .u64 t0, .int .u64 t1, .int .u64 t2, .int .u64 t3, .int .u64 s0, .int .u64 s1, .int .u64 s2, .int .u64 s3, .slice a1 ix.length c1, .slice a2 er.length c2] 43)).drew none := grown_dr (World.grownBy_alloc W _ none)
  have hWa := hW.kept hgA (by simp) (by cases v.ownBlock <;> simp)
  have hbk := hW.lt
  have hne : some W.heap.size ≠ v.ownBlock := fun e => by have := (hW.2.lt _ e.symm).2; omega
  have hnb : W.heap.size ≠ b := by omega
  have hA0 : (W.alloc (.cells #[.int .u8 id, .int .u8 ow, .int .u16 rt, .bool jl, .int .u64 t0, .int .u64 t1, .int .u64 t2, .int .u64 t3, .int .u64 s0, .int .u64 s1, .int .u64 s2, .int .u64 s3, .slice a1 ix.length c1, .slice a2 er.length c2] 43)).drew.heap[W.heap.size]? = some (.cells #[.int .u8 id, .int .u8 ow, .int .u16 rt, .bool jl, .int .u64 t0, .int .u64 t1, .int .u64 t2, .int .u64 t3, .int .u64 s0, .int .u64 s1, .int .u64 s2, .int .u64 s3, .slice a1 ix.length c1, .slice a2 er.length c2] 43 (0, 0)) := al_at rfl
  have hAs : (W.alloc (.cells #[.int .u8 id, .int .u8 ow, .int .u16 rt, .bool jl, .int .u64 t0, .int .u64 t1, .int .u64 t2, .int .u64 t3, .int .u64 s0, .int .u64 s1, .int .u64 s2, .int .u64 s3, .slice a1 ix.length c1, .slice a2 er.length c2] 43)).drew.heap.size = W.heap.size + 1 := by show (W.alloc _).heap.size = _; simp
  have htl := layN_len (val t0 t1 t2 t3)
  have hsl := layN_len (val s0 s1 s2 s3)
  have hI : Hid _ := hI
  have hE : Hid _ := hE
  go_enter Try.func49, Try.ntmps49
  go_upto_region 1 with fail
  go_region_held2 (fun Y => Y.cell? ⟨W.heap.size, 1, none⟩ = some (.int .u8 ow) ∧ Y.cell? ⟨W.heap.size, 2, none⟩ = some (.int .u16 rt) ∧ Y.cell? ⟨W.heap.size, 3, none⟩ = some (.bool jl) ∧ Y.cell? ⟨W.heap.size, 4, none⟩ = some (.int .u64 t0) ∧ Y.cell? ⟨W.heap.size, 5, none⟩ = some (.int .u64 t1) ∧ Y.cell? ⟨W.heap.size, 6, none⟩ = some (.int .u64 t2) ∧ Y.cell? ⟨W.heap.size, 7, none⟩ = some (.int .u64 t3) ∧ Y.cell? ⟨W.heap.size, 8, none⟩ = some (.int .u64 s0) ∧ Y.cell? ⟨W.heap.size, 9, none⟩ = some (.int .u64 s1) ∧ Y.cell? ⟨W.heap.size, 10, none⟩ = some (.int .u64 s2) ∧ Y.cell? ⟨W.heap.size, 11, none⟩ = some (.int .u64 s3) ∧ Y.cell? ⟨W.heap.size, 12, none⟩ = some (.slice a1 ix.length c1) ∧ Y.cell? ⟨W.heap.size, 13, none⟩ = some (.slice a2 er.length c2)) (go_simp) (first
    | (go_at_call 56; with_reducible refine (wByte_any ow hWa (Nat.le_trans hbase hgA.size) (by first | omega | (simp [be_len]; done) | (simp [be_len]; omega))).mono ?_; rintro e w1 ⟨rfl, v1, hW1, hF1⟩; have n1 := hF1.own_ne (n := W.heap.size) (by omega) hne; have q1 := (hF1.block W.heap.size (by omega) hnb hne).trans hA0; obtain ⟨e1, f1⟩ := cells_of_block q1; have z1 := hF1.size)
    | (go_at_call 69; with_reducible refine (wShort_any rt (by omega) hW1 (by omega) (by first | omega | (simp [be_len]; done) | (simp [be_len]; omega))).mono ?_; rintro e w2 ⟨rfl, v2, hW2, hF2⟩; have n2 := hF2.own_ne (n := W.heap.size) (by omega) n1; have q2 := (hF2.block W.heap.size (by omega) hnb n1).trans q1; obtain ⟨e2, f2⟩ := cells_of_block q2; have z2 := hF2.size)
    | (go_at_call 70; with_reducible refine (wFlagF jl hW2 (by omega) (by first | omega | (simp [be_len]; done) | (simp [be_len]; omega))).mono ?_; rintro e w3 ⟨rfl, v3, hW3, hF3⟩; have n3 := hF3.own_ne (n := W.heap.size) (by omega) n2; have q3 := (hF3.block W.heap.size (by omega) hnb n2).trans q2; obtain ⟨e3, f3⟩ := cells_of_block q3; have z3 := hF3.size)
    | (go_at_call 36; with_reducible refine (wNumF t0 t1 t2 t3 ht hW3 (by omega) (by first | omega | (simp [be_len]; done) | (simp [be_len]; omega))).mono ?_; rintro e w4 ⟨rfl, v4, hW4, hF4⟩; have n4 := hF4.own_ne (n := W.heap.size) (by omega) n3; have q4 := (hF4.block W.heap.size (by omega) hnb n3).trans q3; obtain ⟨e4, f4⟩ := cells_of_block q4; have z4 := hF4.size)
    | (go_at_call 36; with_reducible refine (wNumF s0 s1 s2 s3 hs hW4 (by omega) (by first | omega | (simp [be_len]; done) | (simp [be_len]; omega))).mono ?_; rintro e w5 ⟨rfl, v5, hW5, hF5⟩; have n5 := hF5.own_ne (n := W.heap.size) (by omega) n4; have q5 := (hF5.block W.heap.size (by omega) hnb n4).trans q4; obtain ⟨e5, f5⟩ := cells_of_block q5; have z5 := hF5.size)
    | (go_at_call 37; with_reducible refine (wCoinsF hW5 (by omega) iw ir (by simp [be_len]; omega) (hI.out.step (WF.pre hgA (hF1.trans (hF2.trans (hF3.trans (hF4.trans (hF5)))))))).mono ?_; rintro e w6 ⟨rfl, v6, hW6, hF6⟩; have n6 := hF6.own_ne (n := W.heap.size) (by omega) n5; have q6 := (hF6.block W.heap.size (by omega) hnb n5).trans q5; obtain ⟨e6, f6⟩ := cells_of_block q6; have z6 := hF6.size)
    | (go_at_call 37; with_reducible refine (wCoinsF hW6 (by omega) ew er' (by simp [be_len]; omega) (hE.out.step (WF.pre hgA (hF1.trans (hF2.trans (hF3.trans (hF4.trans (hF5.trans (hF6))))))))).mono ?_; rintro e w7 ⟨rfl, v7, hW7, hF7⟩; have n7 := hF7.own_ne (n := W.heap.size) (by omega) n6; have q7 := (hF7.block W.heap.size (by omega) hnb n6).trans q6; obtain ⟨e7, f7⟩ := cells_of_block q7; have z7 := hF7.size))
  go_wp2
  have e : p ++ vB ⟨ow, rt, jl, t0, t1, t2, t3, s0, s1, s2, s3, ix, er⟩ = p ++ [ow] ++ be rt 2 ++ [flI jl] ++ layN (val t0 t1 t2 t3) ++ layN (val s0 s1 s2 s3) ++ coB ix ++ coB er := by simp [vB]
  rw [← e] at hW7
  exact bodyPost_end (v := .tuple #[]) (by simp [results, Try.results49]) rfl ⟨rfl, v7, hW7, WF.pre hgA (hF1.trans (hF2.trans (hF3.trans (hF4.trans (hF5.trans (hF6.trans hF7))))))⟩
end Go.Proofs.Ytafcianpajheiaa

/- pool: a validator is read. -/
namespace Go.Proofs.Ytafcianpajheiaa
open Go.RowKit

section
variable {W : World} {b : Nat} {D : Option Nat} {r : List Int}
theorem rdByte {x : Int} (hD : D ≠ some b) (h : RdAt W b D (some (x :: r))) :
    Calls Try.prog 59 #[.pointer (some ⟨b, 0, none⟩)] W fun e w' => e = .returned (.int .u8 x) ∧ RdAt w' b D (some r) ∧ W.grownBy w' (some b) := by
  have := rByte_any hD h
  rw [byteS_app] at this
  exact this
theorem rdShort {x : Int} (h0 : 0 ≤ x ∧ x < 65536) (hD : D ≠ some b) (h : RdAt W b D (some (be x 2 ++ r))) :
    Calls Try.prog 60 #[.pointer (some ⟨b, 0, none⟩)] W fun e w' => e = .returned (.int .u16 x) ∧ RdAt w' b D (some r) ∧ W.grownBy w' (some b) := by
  have := rShort_any hD h
  rw [numS_be2 h0.1 h0.2] at this
  exact this
theorem rdFlag {x : Bool} (hD : D ≠ some b) (h : RdAt W b D (some (flI x :: r))) :
    Calls Try.prog 61 #[.pointer (some ⟨b, 0, none⟩)] W fun e w' => e = .returned (.bool x) ∧ RdAt w' b D (some r) ∧ W.grownBy w' (some b) := by
  have := rFlag_any hD h
  rw [flagS_app2] at this
  exact this
theorem rdNum {x0 x1 x2 x3 : Int} (hx : Lim x0 x1 x2 x3) (hD : D ≠ some b) (hDl : ∀ d, D = some d → d < W.heap.size) (h : RdAt W b D (some (layN (val x0 x1 x2 x3) ++ r))) :
    Calls Try.prog 44 #[.pointer (some ⟨b, 0, none⟩)] W fun e w' => e = .returned (.agg #[.int .u64 x0, .int .u64 x1, .int .u64 x2, .int .u64 x3]) ∧ RdAt w' b D (some r) ∧ W.grownBy w' (some b) := by
  have := rNum_any hD hDl h
  rw [nS_app (val_lo hx) (val_hi hx)] at this
  refine this.mono ?_
  rintro e w' ⟨z0, z1, z2, z3, rfl, hz, hv, h1, h2⟩
  obtain ⟨rfl, rfl, rfl, rfl⟩ := val_inj hz hx hv
  exact ⟨rfl, h1, h2⟩
theorem rdCoins {L : List Cn} (hw : ∀ x ∈ L, CnWf x) (hr : rightFrom 0 L = true) (hD : D ≠ some b) (hDl : ∀ d, D = some d → d < W.heap.size) (h : RdAt W b D (some (coB L ++ r))) :
    Calls Try.prog 45 #[.pointer (some ⟨b, 0, none⟩)] W fun e w' => ∃ a c, e = .returned (.slice a L.length c) ∧ w'.ownsRow W.heap.size 103 5 (.slice a L.length c) L.length (cellsL L) ∧ RdAt w' b D (some r) ∧ W.grownBy w' (some b) := by
  have := rCoins_any _ W b D hD hDl h
  rw [coinsS_app2 hw hr] at this
  refine this.mono ?_
  rintro e w' ⟨v, rfl, h1, h2, h3⟩
  obtain ⟨a, c, rfl⟩ := row_slice h1
  exact ⟨a, c, rfl, h1, h2, h3⟩
theorem dlt_of (hDl : ∀ d, D = some d → d < W.heap.size) {X : World} {q : Option Nat} (h : W.grownBy X q) : ∀ d, D = some d → d < X.heap.size := fun d hd => Nat.lt_of_lt_of_le (hDl d hd) h.size
end
theorem own_not {v : Value} {g : Nat} (h : v.ownBlock ≠ some g) : v.ownBlock = none ∨ v.ownBlock ≠ some g := .inr h
theorem vB_cons (v : Vd) : vB v = v.ow :: (be v.rt 2 ++ (flI v.jl :: (layN (val v.t0 v.t1 v.t2 v.t3) ++ (layN (val v.s0 v.s1 v.s2 v.s3) ++ (coB v.ix ++ (coB v.er ++ [])))))) := by simp [vB]
set_option maxRecDepth 20000 in
set_option maxHeartbeats 8000000 in
theorem takeVal_any {W : World} {b : Nat} {D : Option Nat} {x : Vd} (hx : VOk x) (hD : D ≠ some b) (hDl : ∀ d, D = some d → d < W.heap.size) (h : RdAt W b D (some (vB x))) :
    Calls Try.prog 42 #[.pointer (some ⟨b, 0, none⟩)] W fun e w' => ∃ a1 c1 a2 c2, e = .returned (.agg #[.int .u8 0, .int .u8 x.ow, .int .u16 x.rt, .bool x.jl, .int .u64 x.t0, .int .u64 x.t1, .int .u64 x.t2, .int .u64 x.t3, .int .u64 x.s0, .int .u64 x.s1, .int .u64 x.s2, .int .u64 x.s3, .slice a1 x.ix.length c1, .slice a2 x.er.length c2]) ∧
      w'.ownsRow W.heap.size 103 5 (.slice a1 x.ix.length c1) x.ix.length (cellsL x.ix) ∧ w'.ownsRow W.heap.size 103 5 (.slice a2 x.er.length c2) x.er.length (cellsL x.er) ∧ RdAt w' b D (some []) ∧ W.grownBy w' (some b) := by
  rw [vB_cons] at h
  obtain ⟨⟨o0, o1⟩, ⟨r0, r1⟩, ht, hs, iw, ir, ew, er'⟩ := hx
  obtain ⟨ow, rt, jl, t0, t1, t2, t3, s0, s1, s2, s3, ix, er⟩ := x
  simp only at o0 o1 r0 r1 ht hs iw ir ew er' h ⊢
  have hbl := h.lt
  have hgA : W.grownBy (W.alloc (.cells #[.int .u8 0, .int .u8 0, .int .u16 0, .bool false, .int .u64 0, .int .u64 0, .int .u64 0, .int .u64 0, .int .u64 0, .int .u64 0, .int .u64 0, .int .u64 0, .slice none 0 0, .slice none 0 0] 43)) (some b) := World.grownBy_alloc W _ _
  have hDa : D = none ∨ D ≠ some b := .inr hD
  have h0 := h.kept (World.grownBy_alloc W (.cells #[.int .u8 0, .int .u8 0, .int .u16 0, .bool false, .int .u64 0, .int .u64 0, .int .u64 0, .int .u64 0, .int .u64 0, .int .u64 0, .int .u64 0, .int .u64 0, .slice none 0 0, .slice none 0 0] 43) none) (by simp) (by cases D <;> simp)
  have d0 := dlt_of hDl hgA
  have hA0 : (W.alloc (.cells #[.int .u8 0, .int .u8 0, .int .u16 0, .bool false, .int .u64 0, .int .u64 0, .int .u64 0, .int .u64 0, .int .u64 0, .int .u64 0, .int .u64 0, .int .u64 0, .slice none 0 0, .slice none 0 0] 43)).heap[W.heap.size]? = some (.cells #[.int .u8 0, .int .u8 0, .int .u16 0, .bool false, .int .u64 0, .int .u64 0, .int .u64 0, .int .u64 0, .int .u64 0, .int .u64 0, .int .u64 0, .int .u64 0, .slice none 0 0, .slice none 0 0] 43 (0, 0)) := al_at rfl
  have hDl0 : Hid (∀ d, D = some d → d < W.heap.size) := hDl
  clear h hDl hDa
  have hnb : some W.heap.size ≠ some b := by simp; omega
  go_enter Try.func42, Try.ntmps42
  go_wp2_with (first
    | (go_at_call 59; with_reducible refine (rdByte (x := ow) hD h0).mono ?_; rintro e w1 ⟨rfl, h1, k1⟩; have d1 := dlt_of d0 k1; have q1 := (k1.block W.heap.size (Array.getElem?_eq_some_iff.1 hA0).1 hnb).trans hA0)
    | (go_at_call 60; with_reducible refine (rdShort (x := rt) (by omega) hD h1).mono ?_; rintro e w2 ⟨rfl, h2, k2⟩; have d2 := dlt_of d1 k2; have q2 := (k2.block W.heap.size (Array.getElem?_eq_some_iff.1 q1).1 hnb).trans q1)
    | (go_at_call 61; with_reducible refine (rdFlag (x := jl) hD h2).mono ?_; rintro e w3 ⟨rfl, h3, k3⟩; have d3 := dlt_of d2 k3; have q3 := (k3.block W.heap.size (Array.getElem?_eq_some_iff.1 q2).1 hnb).trans q2)
    | (go_at_call 44; with_reducible refine (rdNum ht hD d3 h3).mono ?_; rintro e w4 ⟨rfl, h4, k4⟩; have d4 := dlt_of d3 k4; have q4 := (k4.block W.heap.size (Array.getElem?_eq_some_iff.1 q3).1 hnb).trans q3)
    | (go_at_call 44; with_reducible refine (rdNum hs hD d4 h4).mono ?_; rintro e w5 ⟨rfl, h5, k5⟩; have d5 := dlt_of d4 k5; have q5 := (k5.block W.heap.size (Array.getElem?_eq_some_iff.1 q4).1 hnb).trans q4)
    | (go_at_call 45; with_reducible refine (rdCoins iw ir hD d5 h5).mono ?_; rintro e w6 ⟨a1, c1, rfl, u1, h6, k6⟩; have d6 := dlt_of d5 k6; have q6 := (k6.block W.heap.size (Array.getElem?_eq_some_iff.1 q5).1 hnb).trans q5)
    | (go_at_call 45; with_reducible refine (rdCoins ew er' hD d6 h6).mono ?_; rintro e w7 ⟨a2, c2, rfl, u2, h7, k7⟩; have d7 := dlt_of d6 k7; have q7 := (k7.block W.heap.size (Array.getElem?_eq_some_iff.1 q6).1 hnb).trans q6; obtain ⟨e7, f7⟩ := cells_of_block q7; have z7 := (Array.getElem?_eq_some_iff.1 q7).1))
  have z5 := (Array.getElem?_eq_some_iff.1 q5).1
  have z6 := (Array.getElem?_eq_some_iff.1 q6).1
  have hbn : ∀ X : World, w7.grownBy X (some W.heap.size) → X.ownsRow W.heap.size 103 5 (.slice a1 ix.length c1) ix.length (cellsL ix) ∧ X.ownsRow W.heap.size 103 5 (.slice a2 er.length c2) er.length (cellsL er) ∧ RdAt X b D (some []) ∧ W.grownBy X (some b) := by
    intro X hX
    refine ⟨row_base ((u1.kept k7 (own_not fun e => by have := (u1.lt _ e).1; omega)).kept hX (own_not fun e => by have := (u1.lt _ e).1; omega)) (by omega), row_base (u2.kept hX (own_not fun e => by have := (u2.lt _ e).1; omega)) (by omega), h7.kept hX (by simp; omega) ?_, ?_⟩
    · cases hd : D with
      | none => exact .inl rfl
      | some d => right; intro e; simp at e; have := hDl0.out d hd; omega
    · exact grown_new (grown_tr hgA (grown_tr k1 (grown_tr k2 (grown_tr k3 (grown_tr k4 (grown_tr k5 (grown_tr k6 k7))))))) hX (Nat.le_refl _)
  refine bodyPost_ret (v := .agg #[.int .u8 0, .int .u8 ow, .int .u16 rt, .bool jl, .int .u64 t0, .int .u64 t1, .int .u64 t2, .int .u64 t3, .int .u64 s0, .int .u64 s1, .int .u64 s2, .int .u64 s3, .slice a1 ix.length c1, .slice a2 er.length c2]) (by simp only [results, Try.results42]; go_simp) rfl ⟨a1, c1, a2, c2, rfl, hbn _ ?_⟩
  repeat (first | (with_reducible exact grown_ref _ _) | (with_reducible apply grown_se))
end Go.Proofs.Ytafcianpajheiaa

/- pool: a validator of a store; is there one? -/
namespace Go.Proofs.Ytafcianpajheiaa
open Go.RowKit

section
variable {W : World} {s base : Nat} {A : Nat → Prop} {L : List (List Int × List Int)} {ds : List (List (List Int × List Int))} {n : Nat} {V : List Vd} {D : List Dg}
theorem stdGet_yes {u : Value} {k q : List Int} (h : StD W s base A L ds n) (hn : n ≤ 1000) (hu : Src W u k) (hk : Byte k) (hq : getS L k = some q) (hne : q ≠ []) :
    Calls Try.prog 39 #[.pointer (some ⟨s, 0, none⟩), u] W fun e w' => ∃ a c, e = .returned (.tuple #[.slice a q.length c, .bool true]) ∧ Src w' (.slice a q.length c) q ∧ Below W.heap.size W w' := by
  refine (stdGet h hn hu hk).mono ?_
  rintro e w' ⟨hb, ⟨h1, -⟩ | ⟨v, q', h1, rfl, hv⟩⟩
  · rw [hq] at h1; cases h1
  · rw [hq] at h1; injection h1 with h1; subst h1
    have hs := isb_src hv hne
    obtain ⟨a, c, rfl, -⟩ := hs.parts
    exact ⟨a, c, rfl, hs, hb⟩
theorem stdGet_no {u : Value} {k : List Int} (h : StD W s base A L ds n) (hn : n ≤ 1000) (hu : Src W u k) (hk : Byte k) (hq : getS L k = none) :
    Calls Try.prog 39 #[.pointer (some ⟨s, 0, none⟩), u] W fun e w' => e = .returned (.tuple #[.slice none 0 0, .bool false]) ∧ Below W.heap.size W w' := by
  refine (stdGet h hn hu hk).mono ?_
  rintro e w' ⟨hb, ⟨-, rfl⟩ | ⟨v, q', h1, -, -⟩⟩
  · exact ⟨rfl, hb⟩
  · rw [hq] at h1; cases h1
set_option maxHeartbeats 8000000 in
theorem val_yes {i : Nat} {x : Vd} (h : StD W s base A L ds n) (hP : PoL L V D) (hn : n ≤ 1000) (hi : V[i]? = some x) :
    Calls Try.prog 18 #[.pointer (some ⟨s, 0, none⟩), .int .u8 i] W fun e w' => ∃ a1 c1 a2 c2, e = .returned (.tuple #[.agg #[.int .u8 i, .int .u8 x.ow, .int .u16 x.rt, .bool x.jl, .int .u64 x.t0, .int .u64 x.t1, .int .u64 x.t2, .int .u64 x.t3, .int .u64 x.s0, .int .u64 x.s1, .int .u64 x.s2, .int .u64 x.s3, .slice a1 x.ix.length c1, .slice a2 x.er.length c2], .bool true]) ∧
      w'.ownsRow W.heap.size 103 5 (.slice a1 x.ix.length c1) x.ix.length (cellsL x.ix) ∧ w'.ownsRow W.heap.size 103 5 (.slice a2 x.er.length c2) x.er.length (cellsL x.er) ∧ Below W.heap.size W w' := by
  have hok := hP.vok x (List.mem_of_getElem? hi)
  have hi16 : i < 16 := by have := (List.getElem?_eq_some_iff.1 hi).1; have := hP.vlen; omega
  have hG : Hid (∀ (X : World) (u : Value), Below W.heap.size W X → Src X u (kv i) → Calls Try.prog 39 #[.pointer (some ⟨s, 0, none⟩), u] X fun e w' => ∃ a c, e = .returned (.tuple #[.slice a (vB x).length c, .bool true]) ∧ Src w' (.slice a (vB x).length c) (vB x) ∧ Below X.heap.size X w') := fun X u hX hu => stdGet_yes (h.below hX) hn hu (byte_kv (by omega)) (hP.getV_yes hi) (vB_ne x)
  have hvl := vB_len hok
  have hvb := byte_vB hok
  have hT : Hid (∀ (X : World) (b : Nat) (D : Option Nat), D ≠ some b → (∀ d, D = some d → d < X.heap.size) → RdAt X b D (some (vB x)) → Calls Try.prog 42 #[.pointer (some ⟨b, 0, none⟩)] X fun e w' => ∃ a1 c1 a2 c2, e = .returned (.agg #[.int .u8 0, .int .u8 x.ow, .int .u16 x.rt, .bool x.jl, .int .u64 x.t0, .int .u64 x.t1, .int .u64 x.t2, .int .u64 x.t3, .int .u64 x.s0, .int .u64 x.s1, .int .u64 x.s2, .int .u64 x.s3, .slice a1 x.ix.length c1, .slice a2 x.er.length c2]) ∧
      w'.ownsRow X.heap.size 103 5 (.slice a1 x.ix.length c1) x.ix.length (cellsL x.ix) ∧ w'.ownsRow X.heap.size 103 5 (.slice a2 x.er.length c2) x.er.length (cellsL x.er) ∧ RdAt w' b D (some []) ∧ X.grownBy w' (some b)) := fun X b D h1 h2 h3 => takeVal_any hok h1 h2 h3
  clear hok hP h
  generalize vB x = q at *
  obtain ⟨ow, rt, jl, t0, t1, t2, t3, s0, s1, s2, s3, ix, er⟩ := x
  simp only at hT ⊢
  have hA0 : (W.alloc (.cells #[.int .u8 0, .int .u8 0, .int .u16 0, .bool false, .int .u64 0, .int .u64 0, .int .u64 0, .int .u64 0, .int .u64 0, .int .u64 0, .int .u64 0, .int .u64 0, .slice none 0 0, .slice none 0 0] 43)).heap[W.heap.size]? = some (.cells #[.int .u8 0, .int .u8 0, .int .u16 0, .bool false, .int .u64 0, .int .u64 0, .int .u64 0, .int .u64 0, .int .u64 0, .int .u64 0, .int .u64 0, .int .u64 0, .slice none 0 0, .slice none 0 0] 43 (0, 0)) := al_at rfl
  clear hi
  go_enter Try.func18, Try.ntmps18
  go_wp2_with (first
    | (go_at_call 40; refine (ofVal_any i _).mono ?_; rintro e w1 ⟨cap, g, rfl, hsrc, hg1, hg2, hb1⟩; have hB1 : Below W.heap.size W w1 := bt (by (repeat (first | (with_reducible exact Below.refl _ _) | (with_reducible assumption) | (with_reducible apply bd) | (with_reducible apply ba) | (with_reducible refine bp ?_ (by first | omega | (simp [pad_size]; done) | (simp [pad_size]; omega)) _ _) | (with_reducible refine bs ?_ (by first | omega | (simp [pad_size]; done) | (simp [pad_size]; omega)) _) | (with_reducible refine bt ?_ (by assumption))))) hb1; have q1 := (hb1.block W.heap.size (by simp)).trans hA0; have hGet := hG.out w1 _ hB1 hsrc)
    | (go_at_call 39; refine hGet.mono ?_; clear hGet; rintro e w2 ⟨a, c, rfl, hv, hb2⟩; have hB2 := bt hB1 hb2; have q2 := (hb2.block W.heap.size (Array.getElem?_eq_some_iff.1 q1).1).trans q1; have hRd := read_new (by omega) hvb hv)
    | (go_at_call 41; refine hRd.mono ?_; clear hRd; rintro e w3 ⟨b, D, rfl, hr3, hb, hD, hDl, hb3⟩; have hB3 := bt hB2 hb3; have q3 := (hb3.block W.heap.size (Array.getElem?_eq_some_iff.1 q2).1).trans q2; have z2 := (Array.getElem?_eq_some_iff.1 q2).1)
    | (go_at_call 42; refine (hT.out w3 b D hD (fun d hd => (hDl d hd).2) hr3).mono ?_; rintro e w4 ⟨a1, c1, a2, c2, rfl, u1, u2, hr4, hg4⟩; have hB4 := below_grown hB3 hg4 (by omega); have q4 := (hg4.block W.heap.size (Array.getElem?_eq_some_iff.1 q3).1 (by simp; omega)).trans q3; have z4 := (Array.getElem?_eq_some_iff.1 q4).1; obtain ⟨e4, f4⟩ := cells_of_block q4)
    | (go_at_call 43; refine (rEnd_any (hr4.nn (grown_none (by (repeat (first | (with_reducible exact Below.refl _ _) | (with_reducible assumption) | (with_reducible apply bd) | (with_reducible apply ba) | (with_reducible refine bp ?_ (by first | omega | (simp [pad_size]; done) | (simp [pad_size]; omega)) _ _) | (with_reducible refine bs ?_ (by first | omega | (simp [pad_size]; done) | (simp [pad_size]; omega)) _) | (with_reducible refine bt ?_ (by assumption)))))))).mono ?_; rintro e w5 ⟨rfl, rfl⟩))
  have z3 := hB3.size
  have y3 := (Array.getElem?_eq_some_iff.1 q3).1
  have hh : ∀ Y, w4.grownBy Y (some W.heap.size) → ∃ b1 d1 b2 d2, Ending.returned (.tuple #[.agg #[.int .u8 i, .int .u8 ow, .int .u16 rt, .bool jl, .int .u64 t0, .int .u64 t1, .int .u64 t2, .int .u64 t3, .int .u64 s0, .int .u64 s1, .int .u64 s2, .int .u64 s3, .slice a1 ix.length c1, .slice a2 er.length c2], .bool true]) = .returned (.tuple #[.agg #[.int .u8 i, .int .u8 ow, .int .u16 rt, .bool jl, .int .u64 t0, .int .u64 t1, .int .u64 t2, .int .u64 t3, .int .u64 s0, .int .u64 s1, .int .u64 s2, .int .u64 s3, .slice b1 ix.length d1, .slice b2 er.length d2], .bool true]) ∧ Y.ownsRow W.heap.size 103 5 (.slice b1 ix.length d1) ix.length (cellsL ix) ∧ Y.ownsRow W.heap.size 103 5 (.slice b2 er.length d2) er.length (cellsL er) ∧ Below W.heap.size W Y := by
    intro Y hY
    exact ⟨a1, c1, a2, c2, rfl, row_base (u1.kept hY (own_not fun e => by have := (u1.lt _ e).1; omega)) z3, row_base (u2.kept hY (own_not fun e => by have := (u2.lt _ e).1; omega)) z3, below_grown hB4 hY (Nat.le_refl _)⟩
  refine bodyPost_ret (v := .tuple #[.agg #[.int .u8 i, .int .u8 ow, .int .u16 rt, .bool jl, .int .u64 t0, .int .u64 t1, .int .u64 t2, .int .u64 t3, .int .u64 s0, .int .u64 s1, .int .u64 s2, .int .u64 s3, .slice a1 ix.length c1, .slice a2 er.length c2], .bool true]) (by simp only [results, Try.results18]; go_simp) rfl (hh _ ?_)
  repeat (first | (with_reducible exact grown_ref _ _) | (with_reducible apply grown_se) | (with_reducible apply grown_al))
set_option maxHeartbeats 8000000 in
theorem val_no {i : Nat} (h : StD W s base A L ds n) (hP : PoL L V D) (hn : n ≤ 1000) (hi : V.length ≤ i) (hi2 : i ≤ 255) :
    Calls Try.prog 18 #[.pointer (some ⟨s, 0, none⟩), .int .u8 i] W fun e w' => e = .returned (.tuple #[.agg #[.int .u8 0, .int .u8 0, .int .u16 0, .bool false, .int .u64 0, .int .u64 0, .int .u64 0, .int .u64 0, .int .u64 0, .int .u64 0, .int .u64 0, .int .u64 0, .slice none 0 0, .slice none 0 0], .bool false]) ∧ Below W.heap.size W w' := by
  have hG : Hid (∀ (X : World) (u : Value), Below W.heap.size W X → Src X u (kv i) → Calls Try.prog 39 #[.pointer (some ⟨s, 0, none⟩), u] X fun e w' => e = .returned (.tuple #[.slice none 0 0, .bool false]) ∧ Below X.heap.size X w') := fun X u hX hu => stdGet_no (h.below hX) hn hu (byte_kv (by omega)) (hP.getV_no hi)
  have hA0 : (W.alloc (.cells #[.int .u8 0, .int .u8 0, .int .u16 0, .bool false, .int .u64 0, .int .u64 0, .int .u64 0, .int .u64 0, .int .u64 0, .int .u64 0, .int .u64 0, .int .u64 0, .slice none 0 0, .slice none 0 0] 43)).heap[W.heap.size]? = some (.cells #[.int .u8 0, .int .u8 0, .int .u16 0, .bool false, .int .u64 0, .int .u64 0, .int .u64 0, .int .u64 0, .int .u64 0, .int .u64 0, .int .u64 0, .int .u64 0, .slice none 0 0, .slice none 0 0] 43 (0, 0)) := al_at rfl
  clear h hP hi hi2
  go_enter Try.func18, Try.ntmps18
  go_wp2_with (first
    | (go_at_call 40; refine (ofVal_any i _).mono ?_; rintro e w1 ⟨cap, g, rfl, hsrc, hg1, hg2, hb1⟩; have hB1 : Below W.heap.size W w1 := bt (by (repeat (first | (with_reducible exact Below.refl _ _) | (with_reducible assumption) | (with_reducible apply bd) | (with_reducible apply ba) | (with_reducible refine bp ?_ (by first | omega | (simp [pad_size]; done) | (simp [pad_size]; omega)) _ _) | (with_reducible refine bs ?_ (by first | omega | (simp [pad_size]; done) | (simp [pad_size]; omega)) _) | (with_reducible refine bt ?_ (by assumption))))) hb1; have q1 := (hb1.block W.heap.size (by simp)).trans hA0; have hGet := hG.out w1 _ hB1 hsrc)
    | (go_at_call 39; refine hGet.mono ?_; clear hGet; rintro e w2 ⟨rfl, hb2⟩; have hB2 := bt hB1 hb2; have q2 := (hb2.block W.heap.size (Array.getElem?_eq_some_iff.1 q1).1).trans q1; have z2 := (Array.getElem?_eq_some_iff.1 q2).1; obtain ⟨e2, f2⟩ := cells_of_block q2))
  refine bodyPost_ret (v := .tuple #[.agg #[.int .u8 0, .int .u8 0, .int .u16 0, .bool false, .int .u64 0, .int .u64 0, .int .u64 0, .int .u64 0, .int .u64 0, .int .u64 0, .int .u64 0, .int .u64 0, .slice none 0 0, .slice none 0 0], .bool false]) (by simp only [results, Try.results18]; go_simp) rfl ⟨rfl, ?_⟩
  refine below_grown hB2 ?_ (Nat.le_refl _)
  repeat (first | (with_reducible exact grown_ref _ _) | (with_reducible apply grown_se))
set_option maxHeartbeats 4000000 in
theorem is_any {i : Nat} (h : StD W s base A L ds n) (hP : PoL L V D) (hn : n ≤ 1000) (hi2 : i ≤ 255) :
    Calls Try.prog 31 #[.pointer (some ⟨s, 0, none⟩), .int .u8 i] W fun e w' => e = .returned (.bool (decide (i < V.length))) ∧ Below W.heap.size W w' := by
  by_cases hi : i < V.length
  · have hV := val_yes h hP hn (List.getElem?_eq_getElem hi)
    rw [decide_eq_true hi]
    generalize V[i] = x at *
    obtain ⟨ow, rt, jl, t0, t1, t2, t3, s0, s1, s2, s3, ix, er⟩ := x
    simp only at hV
    clear h hP hi hi2
    go_enter Try.func31, Try.ntmps31
    go_wp2_with (go_at_call 18; refine hV.mono ?_; rintro e w1 ⟨a1, c1, a2, c2, rfl, -, -, hb1⟩)
    go_ret
    exact ⟨rfl, by (repeat (first | (with_reducible exact Below.refl _ _) | (with_reducible assumption) | (with_reducible apply bd) | (with_reducible apply ba) | (with_reducible refine bp ?_ (by first | omega | (simp [pad_size]; done) | (simp [pad_size]; omega)) _ _) | (with_reducible refine bs ?_ (by first | omega | (simp [pad_size]; done) | (simp [pad_size]; omega)) _) | (with_reducible refine bt ?_ (by assumption))))⟩
  · have hV := val_no h hP hn (Nat.le_of_not_lt hi) hi2
    rw [decide_eq_false hi]
    clear h hP hi hi2
    go_enter Try.func31, Try.ntmps31
    go_wp2_with (go_at_call 18; refine hV.mono ?_; rintro e w1 ⟨rfl, hb1⟩)
    go_ret
    exact ⟨rfl, by (repeat (first | (with_reducible exact Below.refl _ _) | (with_reducible assumption) | (with_reducible apply bd) | (with_reducible apply ba) | (with_reducible refine bp ?_ (by first | omega | (simp [pad_size]; done) | (simp [pad_size]; omega)) _ _) | (with_reducible refine bs ?_ (by first | omega | (simp [pad_size]; done) | (simp [pad_size]; omega)) _) | (with_reducible refine bt ?_ (by assumption))))⟩
end
end Go.Proofs.Ytafcianpajheiaa

/- pool: may a validator be? (The program's and the reference's.) -/
namespace Go.Proofs.Ytafcianpajheiaa
open Go.RowKit

theorem IsCoins.toCL {W : World} {v : Value} {l : List Cn} (h : IsCoins W v l) : IsCL W v l := by
  rcases h with h | ⟨blk, off, cap, hv, h1, h2, h3, h4⟩
  · exact .inl h
  · exact .inr ⟨blk, off, cap, hv, h1, by omega, h3, h4⟩
theorem IsCL.toC {W : World} {v : Value} {l : List Cn} (h : IsCL W v l) (hl : l.length ≤ 1048576) : IsCoins W v l := by
  rcases h with h | ⟨blk, off, cap, hv, h1, h2, h3, h4⟩
  · exact .inl h
  · exact .inr ⟨blk, off, cap, hv, h1, hl, h3, h4⟩
theorem isCL_nil (X : World) (k : Nat) : IsCL X (.slice none 0 k) [] := .inl ⟨rfl, none, k, rfl⟩
def mayB (ow rt : Int) (ix er : List Cn) : Bool := decide (ow < 200) && (decide (rt ≤ 10000) && (rightFrom 0 ix && rightFrom 0 er))
section
variable {W : World} {id ow rt t0 t1 t2 t3 s0 s1 s2 s3 : Int} {jl : Bool} {a1 a2 : Option Addr} {n1 n2 c1 c2 : Nat} {ix er : List Cn}
set_option maxHeartbeats 4000000 in
theorem mayBe_any (hI : IsCL W (.slice a1 n1 c1) ix) (hE : IsCL W (.slice a2 n2 c2) er) (iw : ∀ x ∈ ix, CnWf x) (ew : ∀ x ∈ er, CnWf x) :
    Calls Try.prog 30 #[.agg #[.int .u8 id, .int .u8 ow, .int .u16 rt, .bool jl, .int .u64 t0, .int .u64 t1, .int .u64 t2, .int .u64 t3, .int .u64 s0, .int .u64 s1, .int .u64 s2, .int .u64 s3, .slice a1 n1 c1, .slice a2 n2 c2]] W fun e w' => e = .returned (.bool (mayB ow rt ix er)) ∧ Below W.heap.size W w' := by
  have hb : Below W.heap.size W (W.alloc (.cells #[.int .u8 id, .int .u8 ow, .int .u16 rt, .bool jl, .int .u64 t0, .int .u64 t1, .int .u64 t2, .int .u64 t3, .int .u64 s0, .int .u64 s1, .int .u64 s2, .int .u64 s3, .slice a1 n1 c1, .slice a2 n2 c2] 43)) := ba (Below.refl _ _) _
  have hA0 : (W.alloc (.cells #[.int .u8 id, .int .u8 ow, .int .u16 rt, .bool jl, .int .u64 t0, .int .u64 t1, .int .u64 t2, .int .u64 t3, .int .u64 s0, .int .u64 s1, .int .u64 s2, .int .u64 s3, .slice a1 n1 c1, .slice a2 n2 c2] 43)).heap[W.heap.size]? = some (.cells #[.int .u8 id, .int .u8 ow, .int .u16 rt, .bool jl, .int .u64 t0, .int .u64 t1, .int .u64 t2, .int .u64 t3, .int .u64 s0, .int .u64 s1, .int .u64 s2, .int .u64 s3, .slice a1 n1 c1, .slice a2 n2 c2] 43 (0, 0)) := al_at rfl
  have hR1 := rightCL_any _ (hI.below hb) iw
  have hR2 : Hid (∀ X, Below W.heap.size W X → Calls Try.prog 33 #[.slice a2 n2 c2] X fun e w' => e = .returned (.bool (rightFrom 0 er)) ∧ Below X.heap.size X w') := fun X hX => rightCL_any X (hE.below hX) ew
  unfold mayB
  generalize rightFrom 0 ix = b1 at *
  generalize rightFrom 0 er = b2 at *
  clear hI hE iw ew
  by_cases h1 : ow < 200
  · by_cases h2 : rt ≤ 10000
    · rw [decide_eq_true h1, decide_eq_true h2]
      cases b1
      all_goals go_enter Try.func30, Try.ntmps30
      all_goals go_wp2_with (first
        | (go_at_call 33; with_reducible refine hR1.mono ?_; rintro e w1 ⟨rfl, hb1⟩; have q1 := (hb1.block W.heap.size (by simp)).trans hA0; have hB1 := bt hb hb1; obtain ⟨e1, f1⟩ := cells_of_block q1)
        | (go_at_call 33; refine (hR2.out _ (by (repeat (first | (with_reducible exact Below.refl _ _) | (with_reducible assumption) | (with_reducible apply bd) | (with_reducible apply ba) | (with_reducible refine bp ?_ (by first | omega | (simp [pad_size]; done) | (simp [pad_size]; omega)) _ _) | (with_reducible refine bs ?_ (by first | omega | (simp [pad_size]; done) | (simp [pad_size]; omega)) _) | (with_reducible refine bt ?_ (by assumption)))))).mono ?_; rintro e w2 ⟨rfl, hb2⟩))
      all_goals go_ret
      all_goals exact ⟨rfl, by (repeat (first | (with_reducible exact Below.refl _ _) | (with_reducible assumption) | (with_reducible apply bd) | (with_reducible apply ba) | (with_reducible refine bp ?_ (by first | omega | (simp [pad_size]; done) | (simp [pad_size]; omega)) _ _) | (with_reducible refine bs ?_ (by first | omega | (simp [pad_size]; done) | (simp [pad_size]; omega)) _) | (with_reducible refine bt ?_ (by assumption))))⟩
    · rw [decide_eq_true h1, decide_eq_false h2]
      go_enter Try.func30, Try.ntmps30
      go_wp2
      go_ret
      exact ⟨rfl, hb⟩
  · rw [decide_eq_false h1]
    go_enter Try.func30, Try.ntmps30
    go_wp2
    go_ret
    exact ⟨rfl, hb⟩
set_option maxHeartbeats 4000000 in
theorem right11_any (hI : IsCL W (.slice a1 n1 c1) ix) (hE : IsCL W (.slice a2 n2 c2) er) (iw : ∀ x ∈ ix, CnWf x) (ew : ∀ x ∈ er, CnWf x) :
    Calls Try.prog 46 #[.agg #[.int .u8 id, .int .u8 ow, .int .u16 rt, .bool jl, .int .u64 t0, .int .u64 t1, .int .u64 t2, .int .u64 t3, .int .u64 s0, .int .u64 s1, .int .u64 s2, .int .u64 s3, .slice a1 n1 c1, .slice a2 n2 c2]] W fun e w' => e = .returned (.bool (mayB ow rt ix er)) ∧ Below W.heap.size W w' := by
  have hb : Below W.heap.size W (W.alloc (.cells #[.int .u8 id, .int .u8 ow, .int .u16 rt, .bool jl, .int .u64 t0, .int .u64 t1, .int .u64 t2, .int .u64 t3, .int .u64 s0, .int .u64 s1, .int .u64 s2, .int .u64 s3, .slice a1 n1 c1, .slice a2 n2 c2] 43)) := ba (Below.refl _ _) _
  have hA0 : (W.alloc (.cells #[.int .u8 id, .int .u8 ow, .int .u16 rt, .bool jl, .int .u64 t0, .int .u64 t1, .int .u64 t2, .int .u64 t3, .int .u64 s0, .int .u64 s1, .int .u64 s2, .int .u64 s3, .slice a1 n1 c1, .slice a2 n2 c2] 43)).heap[W.heap.size]? = some (.cells #[.int .u8 id, .int .u8 ow, .int .u16 rt, .bool jl, .int .u64 t0, .int .u64 t1, .int .u64 t2, .int .u64 t3, .int .u64 s0, .int .u64 s1, .int .u64 s2, .int .u64 s3, .slice a1 n1 c1, .slice a2 n2 c2] 43 (0, 0)) := al_at rfl
  have hR1 := rightRCL_any _ (hI.below hb) iw
  have hR2 : Hid (∀ X, Below W.heap.size W X → Calls Try.prog 47 #[.slice a2 n2 c2] X fun e w' => e = .returned (.bool (rightFrom 0 er)) ∧ Below X.heap.size X w') := fun X hX => rightRCL_any X (hE.below hX) ew
  unfold mayB
  generalize rightFrom 0 ix = b1 at *
  generalize rightFrom 0 er = b2 at *
  clear hI hE iw ew
  by_cases h1 : ow < 200
  · by_cases h2 : rt ≤ 10000
    · rw [decide_eq_true h1, decide_eq_true h2]
      cases b1
      all_goals go_enter Try.func46, Try.ntmps46
      all_goals go_wp2_with (first
        | (go_at_call 47; with_reducible refine hR1.mono ?_; rintro e w1 ⟨rfl, hb1⟩; have q1 := (hb1.block W.heap.size (by simp)).trans hA0; have hB1 := bt hb hb1; obtain ⟨e1, f1⟩ := cells_of_block q1)
        | (go_at_call 47; refine (hR2.out _ (by (repeat (first | (with_reducible exact Below.refl _ _) | (with_reducible assumption) | (with_reducible apply bd) | (with_reducible apply ba) | (with_reducible refine bp ?_ (by first | omega | (simp [pad_size]; done) | (simp [pad_size]; omega)) _ _) | (with_reducible refine bs ?_ (by first | omega | (simp [pad_size]; done) | (simp [pad_size]; omega)) _) | (with_reducible refine bt ?_ (by assumption)))))).mono ?_; rintro e w2 ⟨rfl, hb2⟩))
      all_goals go_ret
      all_goals exact ⟨rfl, by (repeat (first | (with_reducible exact Below.refl _ _) | (with_reducible assumption) | (with_reducible apply bd) | (with_reducible apply ba) | (with_reducible refine bp ?_ (by first | omega | (simp [pad_size]; done) | (simp [pad_size]; omega)) _ _) | (with_reducible refine bs ?_ (by first | omega | (simp [pad_size]; done) | (simp [pad_size]; omega)) _) | (with_reducible refine bt ?_ (by assumption))))⟩
    · rw [decide_eq_true h1, decide_eq_false h2]
      go_enter Try.func46, Try.ntmps46
      go_wp2
      go_ret
      exact ⟨rfl, hb⟩
  · rw [decide_eq_false h1]
    go_enter Try.func46, Try.ntmps46
    go_wp2
    go_ret
    exact ⟨rfl, hb⟩
end
end Go.Proofs.Ytafcianpajheiaa

/- pool: a validator is kept; one more; another one. -/
namespace Go.Proofs.Ytafcianpajheiaa
open Go.RowKit

section
variable {W : World} {s base : Nat} {A : Nat → Prop} {L : List (List Int × List Int)} {ds : List (List (List Int × List Int))} {n : Nat} {V : List Vd} {D : List Dg}
theorem row_src {X : World} {b : Nat} {u : Value} {q : List Int} (h : X.ownsRow b 5 1 u q.length (encB q)) : Src X u q ∧ (∀ g, u.ownBlock = some g → b ≤ g) := ⟨src_own h, fun g hg => (h.lt g hg).1⟩
set_option maxRecDepth 20000 in
set_option maxHeartbeats 8000000 in
theorem keep_any {i : Nat} {x : Vd} {a1 a2 : Option Addr} {c1 c2 : Nat} (h : StD W s base A L ds n) (hn : n ≤ 1000) (hx : VOk x) (hi : i ≤ 255) (hI : IsCoins W (.slice a1 x.ix.length c1) x.ix) (hE : IsCoins W (.slice a2 x.er.length c2) x.er) :
    Calls Try.prog 32 #[.pointer (some ⟨s, 0, none⟩), .agg #[.int .u8 i, .int .u8 x.ow, .int .u16 x.rt, .bool x.jl, .int .u64 x.t0, .int .u64 x.t1, .int .u64 x.t2, .int .u64 x.t3, .int .u64 x.s0, .int .u64 x.s1, .int .u64 x.s2, .int .u64 x.s3, .slice a1 x.ix.length c1, .slice a2 x.er.length c2]] W fun e w' => e = .returned (.tuple #[]) ∧ ∃ A', StD w' s base A' (putS L (kv i) (vB x)) ds (n + 1) ∧ Fr W w' A A' := by
  have hvl := vB_len hx
  have hvb := byte_vB hx
  have hLV : Hid (∀ (X : World) (b : Nat), Below W.heap.size W X → W.heap.size ≤ b → WrAt X b W.heap.size (.slice none 0 0) [] → Calls Try.prog 49 #[.pointer (some ⟨b, 0, none⟩), .agg #[.int .u8 i, .int .u8 x.ow, .int .u16 x.rt, .bool x.jl, .int .u64 x.t0, .int .u64 x.t1, .int .u64 x.t2, .int .u64 x.t3, .int .u64 x.s0, .int .u64 x.s1, .int .u64 x.s2, .int .u64 x.s3, .slice a1 x.ix.length c1, .slice a2 x.er.length c2]] X fun e w' => e = .returned (.tuple #[]) ∧ ∃ v', WrAt w' b W.heap.size v' (vB x) ∧ WF X w' b (.slice none 0 0) v') := fun X b hX hb hW => layVal_any hW hX.size (by simp) hx (Far.of hI hb hX) (Far.of hE hb hX)
  have hSet : Hid (∀ (X : World) (uk uv : Value), Below W.heap.size W X → Src X uk (kv i) → Src X uv (vB x) → (∀ g, uk.ownBlock = some g → W.heap.size ≤ g) → (∀ g, uv.ownBlock = some g → W.heap.size ≤ g) → Calls Try.prog 35 #[.pointer (some ⟨s, 0, none⟩), uk, uv] X fun e w' => e = .returned (.tuple #[]) ∧ ∃ A', StD w' s base A' (putS L (kv i) (vB x)) ds (n + 1) ∧ Fr W w' A A') := fun X uk uv hX hk hv h1 h2 => by
    refine (stdSet (h.below hX) hn hk hv (byte_kv hi) hvb (by rw [kv_len]; omega) (by omega) (.inr fun g hg hA => ?_) (.inr fun g hg hA => ?_)).mono ?_
    · have := h1 g hg; have := (h.foot g hA).2; omega
    · have := h2 g hg; have := (h.foot g hA).2; omega
    · rintro e w' ⟨rfl, A', q1, q2⟩
      exact ⟨rfl, A', q1, (Fr.below hX).trans q2⟩
  have hfoot : Hid True := trivial
  clear h hI hE
  generalize vB x = q at *
  obtain ⟨ow, rt, jl, t0, t1, t2, t3, s0, s1, s2, s3, ix, er⟩ := x
  simp only at hLV ⊢
  clear hx
  have hWr : WrAt ((W.alloc (.cells #[.int .u8 i, .int .u8 ow, .int .u16 rt, .bool jl, .int .u64 t0, .int .u64 t1, .int .u64 t2, .int .u64 t3, .int .u64 s0, .int .u64 s1, .int .u64 s2, .int .u64 s3, .slice a1 ix.length c1, .slice a2 er.length c2] 43)).alloc (.cells #[.slice none 0 0] 87)) (W.heap.size + 1) W.heap.size (.slice none 0 0) [] := ⟨al_at (by simp), World.ownsRow_nil _ _ _ _⟩
  have hbW : Below W.heap.size W ((W.alloc (.cells #[.int .u8 i, .int .u8 ow, .int .u16 rt, .bool jl, .int .u64 t0, .int .u64 t1, .int .u64 t2, .int .u64 t3, .int .u64 s0, .int .u64 s1, .int .u64 s2, .int .u64 s3, .slice a1 ix.length c1, .slice a2 er.length c2] 43)).alloc (.cells #[.slice none 0 0] 87)) := by (repeat (first | (with_reducible exact Below.refl _ _) | (with_reducible assumption) | (with_reducible apply bd) | (with_reducible apply ba) | (with_reducible refine bp ?_ (by first | omega | (simp [pad_size]; done) | (simp [pad_size]; omega)) _ _) | (with_reducible refine bs ?_ (by first | omega | (simp [pad_size]; done) | (simp [pad_size]; omega)) _) | (with_reducible refine bt ?_ (by assumption))))
  have hA0 : (((W.alloc (.cells #[.int .u8 i, .int .u8 ow, .int .u16 rt, .bool jl, .int .u64 t0, .int .u64 t1, .int .u64 t2, .int .u64 t3, .int .u64 s0, .int .u64 s1, .int .u64 s2, .int .u64 s3, .slice a1 ix.length c1, .slice a2 er.length c2] 43)).alloc (.cells #[.slice none 0 0] 87))).heap[W.heap.size]? = some (.cells #[.int .u8 i, .int .u8 ow, .int .u16 rt, .bool jl, .int .u64 t0, .int .u64 t1, .int .u64 t2, .int .u64 t3, .int .u64 s0, .int .u64 s1, .int .u64 s2, .int .u64 s3, .slice a1 ix.length c1, .slice a2 er.length c2] 43 (0, 0)) := (al_old (by simp)).trans (al_at rfl)
  have hs1 : (((W.alloc (.cells #[.int .u8 i, .int .u8 ow, .int .u16 rt, .bool jl, .int .u64 t0, .int .u64 t1, .int .u64 t2, .int .u64 t3, .int .u64 s0, .int .u64 s1, .int .u64 s2, .int .u64 s3, .slice a1 ix.length c1, .slice a2 er.length c2] 43)).alloc (.cells #[.slice none 0 0] 87))).heap.size = W.heap.size + 1 + 1 := by simp
  go_enter Try.func32, Try.ntmps32
  go_wp2_with (first
    | (go_at_call 49; refine (hLV.out _ (W.heap.size + 1) hbW (by omega) hWr).mono ?_; rintro e w1 ⟨rfl, v1, hw1, hF1⟩; have hB1 := WF.below hbW hF1 hWr (by omega) (Nat.le_refl _); have q1 := (hF1.block W.heap.size (by omega) (by omega) (by simp [Value.ownBlock])).trans hA0; obtain ⟨e1, f1⟩ := cells_of_block q1)
    | (go_at_call 40; refine (ofVal_any i _).mono ?_; rintro e w2 ⟨cap, g, rfl, hsrc, hg1, hg2, hb2⟩; have hB2 := bt hB1 hb2; have hw2 := hw1.kept (grown_none hb2) (by simp) (by cases v1.ownBlock <;> simp))
    | (go_at_call 38; refine (wDone_any hw2 (by omega)).mono ?_; rintro e w3 ⟨u, rfl, hu, hb3⟩; have hB3 := bt hB2 hb3; obtain ⟨hus, huo⟩ := row_src hu; have hsrc3 := hsrc.kept (grown_none hb3))
    | (go_at_call 35; refine (hSet.out w3 _ _ hB3 hsrc3 hus (fun k hk => by simp [Value.ownBlock] at hk; have := hB1.size; omega) (fun k hk => by have := huo k hk; have := hB2.size; omega)).mono ?_; rintro e w4 ⟨rfl, A', p1, p2⟩))
  exact bodyPost_end (v := .tuple #[]) (by simp [results, Try.results32]) rfl ⟨rfl, A', p1, p2⟩

def idAt (X : World) (b : Nat) : Nat := match X.cell? ⟨b, 0, none⟩ with
  | some (.int _ k) => 16 - k.toNat
  | _ => 0
theorem V_snoc {V : List Vd} {x : Vd} : ∀ j, (V ++ [x])[j]? = if j = V.length then some x else V[j]? := fun j => by
  by_cases h : j = V.length
  · subst h; simp
  · rw [if_neg h]
    by_cases h2 : j < V.length
    · rw [List.getElem?_append_left h2]
    · rw [List.getElem?_eq_none (by simp; omega), List.getElem?_eq_none (by omega)]
/-- A validator that was just made. -/
def newV (ow rt : Int) : Vd := ⟨ow, rt, false, 0, 0, 0, 0, 0, 0, 0, 0, [], []⟩
theorem newV_ok {ow rt : Int} (h0 : 0 ≤ ow) (hr : 0 ≤ rt) (h : mayB ow rt [] [] = true) : VOk (newV ow rt) := by
  simp only [mayB, rightFrom, Bool.and_true, Bool.and_eq_true, decide_eq_true_eq] at h
  exact ⟨⟨h0, h.1⟩, ⟨hr, h.2⟩, by unfold newV Lim; simp, by unfold newV Lim; simp, by simp [newV], rfl, by simp [newV], rfl⟩
theorem isC_nil (X : World) (k : Nat) : IsCoins X (.slice none 0 k) [] := .inl ⟨rfl, none, k, rfl⟩
set_option maxHeartbeats 4000000 in
theorem add_bad {ow rt : Int} (hm : mayB ow rt [] [] = false) (p : Option Addr) :
    Calls Try.prog 15 #[.pointer p, .int .u8 ow, .int .u16 rt] W fun e w' => e = .returned (.tuple #[.int .u8 0, .int .i64 1]) ∧ Below W.heap.size W w' := by
  have hM := fun X => mayBe_any (W := X) (id := 0) (ow := ow) (rt := rt) (jl := false) (t0 := 0) (t1 := 0) (t2 := 0) (t3 := 0) (s0 := 0) (s1 := 0) (s2 := 0) (s3 := 0) (isCL_nil X 0) (isCL_nil X 0) (by simp) (by simp)
  rw [hm] at hM
  cases p with
  | none =>
    go_enter Try.func15, Try.ntmps15
    go_wp2
    go_ret2
    exact ⟨rfl, by (repeat (first | (with_reducible exact Below.refl _ _) | (with_reducible assumption) | (with_reducible apply bd) | (with_reducible apply ba) | (with_reducible refine bp ?_ (by first | omega | (simp [pad_size]; done) | (simp [pad_size]; omega)) _ _) | (with_reducible refine bs ?_ (by first | omega | (simp [pad_size]; done) | (simp [pad_size]; omega)) _) | (with_reducible refine bt ?_ (by assumption))))⟩
  | some p =>
    go_enter Try.func15, Try.ntmps15
    go_wp2_with (go_at_call 30; refine (hM _).mono ?_; rintro e w1 ⟨rfl, hb1⟩)
    go_ret2
    exact ⟨rfl, bt (by (repeat (first | (with_reducible exact Below.refl _ _) | (with_reducible assumption) | (with_reducible apply bd) | (with_reducible apply ba) | (with_reducible refine bp ?_ (by first | omega | (simp [pad_size]; done) | (simp [pad_size]; omega)) _ _) | (with_reducible refine bs ?_ (by first | omega | (simp [pad_size]; done) | (simp [pad_size]; omega)) _) | (with_reducible refine bt ?_ (by assumption))))) hb1⟩
theorem idAt_of {X : World} {b j : Nat} (h : X.cell? ⟨b, 0, none⟩ = some (.int .u8 (j : Int))) : idAt X b = 16 - j := by
  unfold idAt
  rw [h]
  simp
set_option maxRecDepth 20000 in
set_option maxHeartbeats 8000000 in
theorem add_any {ow rt : Int} (h : StD W s base A L ds n) (hP : PoL L V D) (hn : n ≤ 900) (ho : 0 ≤ ow) (hr : 0 ≤ rt) (hm : mayB ow rt [] [] = true) :
    Calls Try.prog 15 #[.pointer (some ⟨s, 0, none⟩), .int .u8 ow, .int .u16 rt] W fun e w' => (V.length < 16 ∧ e = .returned (.tuple #[.int .u8 (V.length : Nat), .int .i64 0]) ∧ ∃ A' L', StD w' s base A' L' ds (n + 1) ∧ PoL L' (V ++ [newV ow rt]) D ∧ Oth poolB L L' ∧ Fr W w' A A') ∨ (V.length = 16 ∧ e = .returned (.tuple #[.int .u8 0, .int .i64 7]) ∧ Below W.heap.size W w') := by
  have hM := fun X => mayBe_any (W := X) (id := 0) (ow := ow) (rt := rt) (jl := false) (t0 := 0) (t1 := 0) (t2 := 0) (t3 := 0) (s0 := 0) (s1 := 0) (s2 := 0) (s3 := 0) (isCL_nil X 0) (isCL_nil X 0) (by simp) (by simp)
  have hok := newV_ok ho hr hm
  rw [hm] at hM
  have hvl := hP.vlen
  have hIs : Hid (∀ (X : World) (j : Nat), Below W.heap.size W X → j ≤ 255 → Calls Try.prog 31 #[.pointer (some ⟨s, 0, none⟩), .int .u8 j] X fun e w' => e = .returned (.bool (decide (j < V.length))) ∧ Below X.heap.size X w') := fun X j hX hj => is_any (h.below hX) hP (by omega) hj
  have hK : Hid (∀ (X : World), V.length < 16 → Below W.heap.size W X → Calls Try.prog 32 #[.pointer (some ⟨s, 0, none⟩), .agg #[.int .u8 (V.length : Nat), .int .u8 ow, .int .u16 rt, .bool false, .int .u64 0, .int .u64 0, .int .u64 0, .int .u64 0, .int .u64 0, .int .u64 0, .int .u64 0, .int .u64 0, .slice none 0 0, .slice none 0 0]] X fun e w' => e = .returned (.tuple #[]) ∧ ∃ A', Fr X w' A A' ∧ ∀ w2, w'.grownBy w2 none → ∃ L', StD w2 s base A' L' ds (n + 1) ∧ PoL L' (V ++ [newV ow rt]) D ∧ Oth poolB L L' ∧ Fr W w2 A A') := fun X hl hX => by
    refine (keep_any (x := newV ow rt) (h.below hX) (by omega) hok (by omega) (isC_nil X 0) (isC_nil X 0)).mono ?_
    rintro e w' ⟨rfl, A', q1, q2⟩
    refine ⟨rfl, A', q2, fun w2 hw => ⟨_, q1.kept (fun k hk => hw.block k (q1.foot k hk).2 (by simp)) hw.size, hP.putV hok V_snoc (by simp; omega) (by simp), Oth.put (begs_kv _), (Fr.below hX).trans (q2.trans ⟨hw.os, hw.tape, hw.output, hw.size, fun k hk _ => hw.block k hk (by simp), fun _ h => .inl h, fun _ h => h⟩)⟩⟩
  have hft : Hid (∀ k, A k → k < W.heap.size) := fun k hk => (h.foot k hk).2
  generalize V.length = m at *
  clear hP h hok
  go_enter Try.func15, Try.ntmps15
  go_wp2_with (go_at_call 30; refine (hM _).mono ?_; rintro e w1 ⟨rfl, hb1⟩; have q1 := (hb1.block W.heap.size (by simp)).trans (al_at rfl); have hB1 : Below W.heap.size W w1 := bt (by (repeat (first | (with_reducible exact Below.refl _ _) | (with_reducible assumption) | (with_reducible apply bd) | (with_reducible apply ba) | (with_reducible refine bp ?_ (by first | omega | (simp [pad_size]; done) | (simp [pad_size]; omega)) _ _) | (with_reducible refine bs ?_ (by first | omega | (simp [pad_size]; done) | (simp [pad_size]; omega)) _) | (with_reducible refine bt ?_ (by assumption))))) hb1)
  go_loopw [19] (fun v19 X => ∃ j : Nat, j ≤ m ∧ X.heap[W.heap.size]? = some (.cells #[.int .u8 (j : Nat), .int .u8 ow, .int .u16 rt, .bool false, .int .u64 0, .int .u64 0, .int .u64 0, .int .u64 0, .int .u64 0, .int .u64 0, .int .u64 0, .int .u64 0, .slice none 0 0, .slice none 0 0] 43 (0, 0)) ∧ Below W.heap.size W X) (fun _ X => idAt X W.heap.size)
  case atStart => exact ⟨0, by omega, q1, hB1⟩
  case round =>
    clear q1 hB1 hb1 hM
    obtain ⟨j, hj, hq, hX⟩ := hrel
    have hz := (Array.getElem?_eq_some_iff.1 hq).1
    obtain ⟨e0, f0⟩ := cells_of_block hq
    have hid := idAt_of (j := j) (e0 0)
    by_cases hj16 : j < 16
    · have hj' : (j : Int) < 16 := by omega
      by_cases hjm : j < m
      · have hI := hIs.out wr j hX (by omega)
        rw [decide_eq_true hjm] at hI
        go_wp2_with (go_at_call 31; refine hI.mono ?_; rintro e w2 ⟨rfl, hb2⟩; have q2 := (hb2.block W.heap.size hz).trans hq; obtain ⟨e2, f2⟩ := cells_of_block q2; have hB2 := bt hX hb2; have hwr : IntKind.u8.wrap ((j : Int) + 1) = ((j + 1 : Nat) : Int) := by rw [IntKind.wrap_u8]; omega)
        all_goals go_roundw
        case rel => exact ⟨j + 1, by omega, (block_set _ q2).trans (by first | rfl | simp), bs hB2 (Nat.le_refl _) _⟩
        case measure =>
          have e3 := idAt_of (j := j + 1) ((cells_of_block ((block_set (i := 0) (.int .u8 ((j + 1 : Nat) : Int)) q2))).1 0)
          rw [hid]
          refine Nat.lt_of_le_of_lt (Nat.le_of_eq (Eq.trans ?_ e3)) (by omega)
          first | rfl | simp
      · obtain rfl : j = m := by omega
        have hI := hIs.out wr j hX (by omega)
        rw [decide_eq_false (Nat.lt_irrefl j)] at hI
        go_wp2_with (first
          | (go_at_call 31; refine hI.mono ?_; rintro e w2 ⟨rfl, hb2⟩; have q2 := (hb2.block W.heap.size hz).trans hq; obtain ⟨e2, f2⟩ := cells_of_block q2; have hB2 := bt hX hb2)
          | (go_at_call 32; refine (hK.out _ hj16 hB2).mono ?_; rintro e w3 ⟨rfl, A', hF3, hfin⟩; have q3 := (hF3.block W.heap.size (Array.getElem?_eq_some_iff.1 q2).1 (fun hA => by have := hft.out _ hA; omega)).trans q2; obtain ⟨e3, f3⟩ := cells_of_block q3))
        go_ret2
        obtain ⟨L', p1, p2, p3, p4⟩ := hfin w3 (grown_ref _ _)
        exact .inl ⟨hj16, rfl, A', L', p1, p2, p3, p4⟩
    · obtain rfl : j = 16 := by omega
      obtain rfl : m = 16 := by omega
      go_wp2
      go_ret2
      exact ⟨rfl, hX⟩
/-- What a validator that came in is. -/
structure VIn (x : Vd) : Prop where
  ow : 0 ≤ x.ow ∧ x.ow ≤ 255
  rt : 0 ≤ x.rt ∧ x.rt < 65536
  t : Lim x.t0 x.t1 x.t2 x.t3
  s : Lim x.s0 x.s1 x.s2 x.s3
  iw : ∀ y ∈ x.ix, CnWf y
  ew : ∀ y ∈ x.er, CnWf y
theorem VIn.ok {x : Vd} (h : VIn x) (hm : mayB x.ow x.rt x.ix x.er = true) : VOk x := by
  simp only [mayB, Bool.and_eq_true, decide_eq_true_eq] at hm
  exact ⟨⟨h.ow.1, hm.1⟩, ⟨h.rt.1, hm.2.1⟩, h.t, h.s, h.iw, hm.2.2.1, h.ew, hm.2.2.2⟩
set_option maxHeartbeats 4000000 in
theorem setVal_bad {i : Int} {x : Vd} {a1 a2 : Option Addr} {c1 c2 : Nat} (hx : VIn x) (hI : IsCL W (.slice a1 x.ix.length c1) x.ix) (hE : IsCL W (.slice a2 x.er.length c2) x.er) (p : Option Addr) (hm : p = none ∨ mayB x.ow x.rt x.ix x.er = false) :
    Calls Try.prog 16 #[.pointer p, .agg #[.int .u8 i, .int .u8 x.ow, .int .u16 x.rt, .bool x.jl, .int .u64 x.t0, .int .u64 x.t1, .int .u64 x.t2, .int .u64 x.t3, .int .u64 x.s0, .int .u64 x.s1, .int .u64 x.s2, .int .u64 x.s3, .slice a1 x.ix.length c1, .slice a2 x.er.length c2]] W fun e w' => e = .returned (.int .i64 1) ∧ Below W.heap.size W w' := by
  have hM := fun X (hX : Below W.heap.size W X) => mayBe_any (id := i) (ow := x.ow) (rt := x.rt) (jl := x.jl) (t0 := x.t0) (t1 := x.t1) (t2 := x.t2) (t3 := x.t3) (s0 := x.s0) (s1 := x.s1) (s2 := x.s2) (s3 := x.s3) (hI.below hX) (hE.below hX) hx.iw hx.ew
  generalize mayB x.ow x.rt x.ix x.er = mb at *
  obtain ⟨ow, rt, jl, t0, t1, t2, t3, s0, s1, s2, s3, ix, er⟩ := x
  simp only at hM ⊢
  have hM : Hid _ := hM
  clear hx hI hE
  cases p with
  | none =>
    clear hM hm
    go_enter Try.func16, Try.ntmps16
    go_wp2
    go_ret
    exact ⟨rfl, by (repeat (first | (with_reducible exact Below.refl _ _) | (with_reducible assumption) | (with_reducible apply bd) | (with_reducible apply ba) | (with_reducible refine bp ?_ (by first | omega | (simp [pad_size]; done) | (simp [pad_size]; omega)) _ _) | (with_reducible refine bs ?_ (by first | omega | (simp [pad_size]; done) | (simp [pad_size]; omega)) _) | (with_reducible refine bt ?_ (by assumption))))⟩
  | some p =>
    obtain rfl : mb = false := by simpa using hm
    clear hm
    go_enter Try.func16, Try.ntmps16
    go_wp2_with (go_at_call 30; refine (hM.out _ (by (repeat (first | (with_reducible exact Below.refl _ _) | (with_reducible assumption) | (with_reducible apply bd) | (with_reducible apply ba) | (with_reducible refine bp ?_ (by first | omega | (simp [pad_size]; done) | (simp [pad_size]; omega)) _ _) | (with_reducible refine bs ?_ (by first | omega | (simp [pad_size]; done) | (simp [pad_size]; omega)) _) | (with_reducible refine bt ?_ (by assumption)))))).mono ?_; rintro e w1 ⟨rfl, hb1⟩)
    go_ret
    exact ⟨rfl, bt (by (repeat (first | (with_reducible exact Below.refl _ _) | (with_reducible assumption) | (with_reducible apply bd) | (with_reducible apply ba) | (with_reducible refine bp ?_ (by first | omega | (simp [pad_size]; done) | (simp [pad_size]; omega)) _ _) | (with_reducible refine bs ?_ (by first | omega | (simp [pad_size]; done) | (simp [pad_size]; omega)) _) | (with_reducible refine bt ?_ (by assumption))))) hb1⟩
theorem V_set {V : List Vd} {x : Vd} {i : Nat} (hi : i < V.length) : ∀ j, (V.set i x)[j]? = if j = i then some x else V[j]? := fun j => by
  rw [List.getElem?_set]
  by_cases h : i = j
  · subst h; simp [hi]
  · have h' : ¬ j = i := fun e => h e.symm
    simp [h, h']
set_option maxRecDepth 20000 in
set_option maxHeartbeats 8000000 in
theorem setVal_any {i : Nat} {x : Vd} {a1 a2 : Option Addr} {c1 c2 : Nat} (h : StD W s base A L ds n) (hP : PoL L V D) (hn : n ≤ 900) (hi : i ≤ 255) (hx : VIn x) (hm : mayB x.ow x.rt x.ix x.er = true) (hI : IsCoins W (.slice a1 x.ix.length c1) x.ix) (hE : IsCoins W (.slice a2 x.er.length c2) x.er) :
    Calls Try.prog 16 #[.pointer (some ⟨s, 0, none⟩), .agg #[.int .u8 i, .int .u8 x.ow, .int .u16 x.rt, .bool x.jl, .int .u64 x.t0, .int .u64 x.t1, .int .u64 x.t2, .int .u64 x.t3, .int .u64 x.s0, .int .u64 x.s1, .int .u64 x.s2, .int .u64 x.s3, .slice a1 x.ix.length c1, .slice a2 x.er.length c2]] W fun e w' => (i < V.length ∧ e = .returned (.int .i64 0) ∧ ∃ A' L', StD w' s base A' L' ds (n + 1) ∧ PoL L' (V.set i x) D ∧ Oth poolB L L' ∧ Fr W w' A A') ∨ (V.length ≤ i ∧ e = .returned (.int .i64 5) ∧ Below W.heap.size W w') := by
  have hok := hx.ok hm
  have hM := fun X (hX : Below W.heap.size W X) => mayBe_any (id := (i : Int)) (ow := x.ow) (rt := x.rt) (jl := x.jl) (t0 := x.t0) (t1 := x.t1) (t2 := x.t2) (t3 := x.t3) (s0 := x.s0) (s1 := x.s1) (s2 := x.s2) (s3 := x.s3) (hI.below hX).toCL (hE.below hX).toCL hx.iw hx.ew
  rw [hm] at hM
  have hvl := hP.vlen
  have hIs : Hid (∀ (X : World), Below W.heap.size W X → Calls Try.prog 31 #[.pointer (some ⟨s, 0, none⟩), .int .u8 i] X fun e w' => e = .returned (.bool (decide (i < V.length))) ∧ Below X.heap.size X w') := fun X hX => is_any (h.below hX) hP (by omega) hi
  have hK : Hid (∀ (X : World), i < V.length → Below W.heap.size W X → Calls Try.prog 32 #[.pointer (some ⟨s, 0, none⟩), .agg #[.int .u8 i, .int .u8 x.ow, .int .u16 x.rt, .bool x.jl, .int .u64 x.t0, .int .u64 x.t1, .int .u64 x.t2, .int .u64 x.t3, .int .u64 x.s0, .int .u64 x.s1, .int .u64 x.s2, .int .u64 x.s3, .slice a1 x.ix.length c1, .slice a2 x.er.length c2]] X fun e w' => e = .returned (.tuple #[]) ∧ ∃ A' L', StD w' s base A' L' ds (n + 1) ∧ PoL L' (V.set i x) D ∧ Oth poolB L L' ∧ Fr W w' A A') := fun X hl hX => by
    refine (keep_any (x := x) (h.below hX) (by omega) hok (by omega) (hI.below hX) (hE.below hX)).mono ?_
    rintro e w' ⟨rfl, A', q1, q2⟩
    exact ⟨rfl, A', _, q1, hP.putV hok (V_set hl) (by simp; omega) (by simp), Oth.put (begs_kv _), (Fr.below hX).trans q2⟩
  generalize V.set i x = V' at *
  generalize V.length = m at *
  obtain ⟨ow, rt, jl, t0, t1, t2, t3, s0, s1, s2, s3, ix, er⟩ := x
  simp only at hM hK ⊢
  have hM : Hid _ := hM
  clear hP h hok hx hI hE hm
  have hA0 : (W.alloc (.cells #[.int .u8 i, .int .u8 ow, .int .u16 rt, .bool jl, .int .u64 t0, .int .u64 t1, .int .u64 t2, .int .u64 t3, .int .u64 s0, .int .u64 s1, .int .u64 s2, .int .u64 s3, .slice a1 ix.length c1, .slice a2 er.length c2] 43)).heap[W.heap.size]? = some (.cells #[.int .u8 i, .int .u8 ow, .int .u16 rt, .bool jl, .int .u64 t0, .int .u64 t1, .int .u64 t2, .int .u64 t3, .int .u64 s0, .int .u64 s1, .int .u64 s2, .int .u64 s3, .slice a1 ix.length c1, .slice a2 er.length c2] 43 (0, 0)) := al_at rfl
  have hR1 : ∀ {e : Ending} {w' : World}, e = .returned (.int .i64 5) ∧ Below W.heap.size W w' → Below W.heap.size W w' := fun h => h.2
  by_cases hl : i < m
  · rw [decide_eq_true hl] at hIs
    go_enter Try.func16, Try.ntmps16
    go_wp2_with (first
      | (go_at_call 30; refine (hM.out _ (by (repeat (first | (with_reducible exact Below.refl _ _) | (with_reducible assumption) | (with_reducible apply bd) | (with_reducible apply ba) | (with_reducible refine bp ?_ (by first | omega | (simp [pad_size]; done) | (simp [pad_size]; omega)) _ _) | (with_reducible refine bs ?_ (by first | omega | (simp [pad_size]; done) | (simp [pad_size]; omega)) _) | (with_reducible refine bt ?_ (by assumption)))))).mono ?_; rintro e w1 ⟨rfl, hb1⟩; have q1 := (hb1.block W.heap.size (by simp)).trans hA0; have hB1 : Below W.heap.size W w1 := bt (by (repeat (first | (with_reducible exact Below.refl _ _) | (with_reducible assumption) | (with_reducible apply bd) | (with_reducible apply ba) | (with_reducible refine bp ?_ (by first | omega | (simp [pad_size]; done) | (simp [pad_size]; omega)) _ _) | (with_reducible refine bs ?_ (by first | omega | (simp [pad_size]; done) | (simp [pad_size]; omega)) _) | (with_reducible refine bt ?_ (by assumption))))) hb1; obtain ⟨e1, f1⟩ := cells_of_block q1)
      | (go_at_call 31; refine (hIs.out _ hB1).mono ?_; rintro e w2 ⟨rfl, hb2⟩; have q2 := (hb2.block W.heap.size (Array.getElem?_eq_some_iff.1 q1).1).trans q1; have hB2 := bt hB1 hb2; obtain ⟨e2, f2⟩ := cells_of_block q2)
      | (go_at_call 32; refine (hK.out _ hl hB2).mono ?_; rintro e w3 ⟨rfl, hfin⟩))
    go_ret
    exact .inl ⟨hl, rfl, hfin⟩
  · rw [decide_eq_false hl] at hIs
    go_enter Try.func16, Try.ntmps16
    go_wp2_with (first
      | (go_at_call 30; refine (hM.out _ (by (repeat (first | (with_reducible exact Below.refl _ _) | (with_reducible assumption) | (with_reducible apply bd) | (with_reducible apply ba) | (with_reducible refine bp ?_ (by first | omega | (simp [pad_size]; done) | (simp [pad_size]; omega)) _ _) | (with_reducible refine bs ?_ (by first | omega | (simp [pad_size]; done) | (simp [pad_size]; omega)) _) | (with_reducible refine bt ?_ (by assumption)))))).mono ?_; rintro e w1 ⟨rfl, hb1⟩; have q1 := (hb1.block W.heap.size (by simp)).trans hA0; have hB1 : Below W.heap.size W w1 := bt (by (repeat (first | (with_reducible exact Below.refl _ _) | (with_reducible assumption) | (with_reducible apply bd) | (with_reducible apply ba) | (with_reducible refine bp ?_ (by first | omega | (simp [pad_size]; done) | (simp [pad_size]; omega)) _ _) | (with_reducible refine bs ?_ (by first | omega | (simp [pad_size]; done) | (simp [pad_size]; omega)) _) | (with_reducible refine bt ?_ (by assumption))))) hb1; obtain ⟨e1, f1⟩ := cells_of_block q1)
      | (go_at_call 31; refine (hIs.out _ hB1).mono ?_; rintro e w2 ⟨rfl, hb2⟩; have hB2 := bt hB1 hb2))
    go_ret
    exact .inr ⟨Nat.le_of_not_lt hl, rfl, hB2⟩
end
end Go.Proofs.Ytafcianpajheiaa

/- pool: a delegation is set. -/
namespace Go.Proofs.Ytafcianpajheiaa
open Go.RowKit

theorem of2 {w : World} {y a b : Nat} (hu : w.heap[y]? = some (.cells #[.int .u8 (a : Nat), .int .u8 (b : Nat)] 5 (0, 0))) :
    Calls Try.prog 28 #[.slice (some ⟨y, 0, none⟩) 2 2] w fun e w' => ∃ cap g, e = .returned (.slice (some ⟨g, 0, none⟩) 11 cap) ∧ Src w' (.slice (some ⟨g, 0, none⟩) 11 cap) (kd a b) ∧ w.heap.size ≤ g ∧ g < w'.heap.size ∧ Below w.heap.size w w' := by
  have c := (cells_of_block hu).1
  exact of_some (q := [(a : Int), (b : Int)]) (by simp) (by simp) (Array.getElem?_eq_some_iff.1 hu).1 (fun j x hj => by
    match j, hj with
    | 0, hj => simp at hj; subst hj; exact c 0
    | 1, hj => simp at hj; subst hj; exact c 1
    | j + 2, hj => simp at hj)
theorem of1 {w : World} {y a : Nat} (hu : w.heap[y]? = some (.cells #[.int .u8 (a : Nat)] 5 (0, 0))) :
    Calls Try.prog 28 #[.slice (some ⟨y, 0, none⟩) 1 1] w fun e w' => ∃ cap g, e = .returned (.slice (some ⟨g, 0, none⟩) 10 cap) ∧ Src w' (.slice (some ⟨g, 0, none⟩) 10 cap) (hasP ++ [(a : Int)]) ∧ w.heap.size ≤ g ∧ g < w'.heap.size ∧ Below w.heap.size w w' := by
  have c := (cells_of_block hu).1
  exact of_some (q := [(a : Int)]) (by simp) (by simp) (Array.getElem?_eq_some_iff.1 hu).1 (fun j x hj => by
    match j, hj with
    | 0, hj => simp at hj; subst hj; exact c 0
    | j + 1, hj => simp at hj)
theorem src_wf {W W' : World} {b g n cap : Nat} {v v' : Value} {q : List Int} (h : Src W (.slice (some ⟨g, 0, none⟩) n cap) q) (hF : WF W W' b v v') (hg : g < W.heap.size) (hb : g ≠ b) (hv : some g ≠ v.ownBlock) : Src W' (.slice (some ⟨g, 0, none⟩) n cap) q := by
  rcases h with ⟨h, -⟩ | ⟨ad, c, e, hc⟩
  · simp at h
  · refine .inr ⟨ad, c, e, fun i x hi => ?_⟩
    have hi' := hc i x hi
    simp at e
    obtain ⟨rfl, -, -⟩ := e
    rw [add_cell] at hi' ⊢
    exact (World.cell?_of_block (a := ⟨g, _, none⟩) (hF.block g hg hb hv)).trans hi'
structure DIn (x : Dg) : Prop where
  ow : x.ow ≤ 255
  va : x.va ≤ 255
  s : Lim x.s0 x.s1 x.s2 x.s3
  iw : ∀ y ∈ x.ix, CnWf y
/-- What setting a delegation comes to. -/
def setD (D : List Dg) (x : Dg) : List Dg := if eq4 x.s0 x.s1 x.s2 x.s3 0 0 0 0 = true then dropD D x.ow x.va else putD D x
section
variable {W : World} {s base : Nat} {A : Nat → Prop} {L : List (List Int × List Int)} {ds : List (List (List Int × List Int))} {n : Nat} {V : List Vd} {D : List Dg} {x : Dg} {a1 : Option Addr} {c1 : Nat}
set_option maxHeartbeats 4000000 in
theorem setDg_bad (hx : DIn x) (hI : IsCL W (.slice a1 x.ix.length c1) x.ix) (p : Option Addr) (hm : p = none ∨ 200 ≤ x.ow ∨ rightFrom 0 x.ix = false) :
    Calls Try.prog 17 #[.pointer p, .agg #[.int .u8 (x.ow : Nat), .int .u8 (x.va : Nat), .int .u64 x.s0, .int .u64 x.s1, .int .u64 x.s2, .int .u64 x.s3, .slice a1 x.ix.length c1]] W fun e w' => e = .returned (.int .i64 1) ∧ Below W.heap.size W w' := by
  have hM := fun X (hX : Below W.heap.size W X) => rightCL_any X (hI.below hX) hx.iw
  generalize rightFrom 0 x.ix = mb at *
  obtain ⟨ow, va, s0, s1, s2, s3, ix⟩ := x
  simp only at hM hm ⊢
  have hM : Hid _ := hM
  clear hx hI
  cases p with
  | none =>
    clear hM hm
    go_enter Try.func17, Try.ntmps17
    go_wp2
    go_ret
    exact ⟨rfl, by (repeat (first | (with_reducible exact Below.refl _ _) | (with_reducible assumption) | (with_reducible apply bd) | (with_reducible apply ba) | (with_reducible refine bp ?_ (by first | omega | (simp [pad_size]; done) | (simp [pad_size]; omega)) _ _) | (with_reducible refine bs ?_ (by first | omega | (simp [pad_size]; done) | (simp [pad_size]; omega)) _) | (with_reducible refine bt ?_ (by assumption))))⟩
  | some p =>
    by_cases h2 : 200 ≤ ow
    · have h2' : (200 : Int) ≤ (ow : Int) := by omega
      clear hM hm
      go_enter Try.func17, Try.ntmps17
      go_wp2
      go_ret
      exact ⟨rfl, by (repeat (first | (with_reducible exact Below.refl _ _) | (with_reducible assumption) | (with_reducible apply bd) | (with_reducible apply ba) | (with_reducible refine bp ?_ (by first | omega | (simp [pad_size]; done) | (simp [pad_size]; omega)) _ _) | (with_reducible refine bs ?_ (by first | omega | (simp [pad_size]; done) | (simp [pad_size]; omega)) _) | (with_reducible refine bt ?_ (by assumption))))⟩
    · have h2' : ¬ (200 : Int) ≤ (ow : Int) := by omega
      obtain rfl : mb = false := by
        rcases hm with h | h | h
        · cases h
        · exact absurd h h2
        · exact h
      clear hm
      go_enter Try.func17, Try.ntmps17
      go_wp2_with (go_at_call 33; refine (hM.out _ (by (repeat (first | (with_reducible exact Below.refl _ _) | (with_reducible assumption) | (with_reducible apply bd) | (with_reducible apply ba) | (with_reducible refine bp ?_ (by first | omega | (simp [pad_size]; done) | (simp [pad_size]; omega)) _ _) | (with_reducible refine bs ?_ (by first | omega | (simp [pad_size]; done) | (simp [pad_size]; omega)) _) | (with_reducible refine bt ?_ (by assumption)))))).mono ?_; rintro e w1 ⟨rfl, hb1⟩)
      go_ret
      exact ⟨rfl, bt (by (repeat (first | (with_reducible exact Below.refl _ _) | (with_reducible assumption) | (with_reducible apply bd) | (with_reducible apply ba) | (with_reducible refine bp ?_ (by first | omega | (simp [pad_size]; done) | (simp [pad_size]; omega)) _ _) | (with_reducible refine bs ?_ (by first | omega | (simp [pad_size]; done) | (simp [pad_size]; omega)) _) | (with_reducible refine bt ?_ (by assumption))))) hb1⟩
theorem WrAt.nb {W W' : World} {b base : Nat} {v : Value} {p : List Int} (h : WrAt W b base v p) (hb : Below W.heap.size W W') : WrAt W' b base v p := h.kept (grown_none hb) (by simp) (by cases v.ownBlock <;> simp)
set_option maxRecDepth 20000 in
set_option maxHeartbeats 8000000 in
theorem setDg_any (h : StD W s base A L ds n) (hP : PoL L V D) (hn : n ≤ 900) (hx : DIn x) (hm : x.ow < 200) (hr : rightFrom 0 x.ix = true) (hI : IsCoins W (.slice a1 x.ix.length c1) x.ix) :
    Calls Try.prog 17 #[.pointer (some ⟨s, 0, none⟩), .agg #[.int .u8 (x.ow : Nat), .int .u8 (x.va : Nat), .int .u64 x.s0, .int .u64 x.s1, .int .u64 x.s2, .int .u64 x.s3, .slice a1 x.ix.length c1]] W fun e w' => (x.va < V.length ∧ e = .returned (.int .i64 0) ∧ ∃ A' L', StD w' s base A' L' ds (n + 1) ∧ PoL L' V (setD D x) ∧ Oth poolB L L' ∧ Fr W w' A A') ∨ (V.length ≤ x.va ∧ e = .returned (.int .i64 5) ∧ Below W.heap.size W w') := by
  have hM := fun X (hX : Below W.heap.size W X) => right_any X (hI.below hX) hx.iw
  rw [hr] at hM
  have heq := eq_num
  have hxs := hx.s
  have hiw := hx.iw
  have hva := hx.va
  have hir := hr
  have hIs : Hid (∀ (X : World), Below W.heap.size W X → Calls Try.prog 31 #[.pointer (some ⟨s, 0, none⟩), .int .u8 x.va] X fun e w' => e = .returned (.bool (decide (x.va < V.length))) ∧ Below X.heap.size X w') := fun X hX => is_any (h.below hX) hP (by omega) hx.va
  have hfar : Hid (∀ (X : World) (b : Nat), Below W.heap.size W X → W.heap.size ≤ b → Far X b (.slice none 0 0) (.slice a1 x.ix.length c1) x.ix) := fun X b hX hb => Far.of hI hb hX
  have hDel : Hid (∀ (X : World) (uk : Value), Below W.heap.size W X → Src X uk (kd x.ow x.va) → (∀ g, uk.ownBlock = some g → W.heap.size ≤ g) → eq4 x.s0 x.s1 x.s2 x.s3 0 0 0 0 = true → Calls Try.prog 34 #[.pointer (some ⟨s, 0, none⟩), uk] X fun e w' => e = .returned (.tuple #[]) ∧ ∃ A' L', StD w' s base A' L' ds (n + 1) ∧ PoL L' V (setD D x) ∧ Oth poolB L L' ∧ Fr W w' A A') := fun X uk hX hk h1 h0 => by
    refine (stdDel (h.below hX) (by omega) hk (byte_kd hx.ow hx.va) (by rw [kd_len]; omega) (.inr fun g hg hA => ?_)).mono ?_
    · have := h1 g hg; have := (h.foot g hA).2; omega
    · rintro e w' ⟨rfl, A', q1, q2⟩
      refine ⟨rfl, A', _, q1, ?_, Oth.drop (begs_kd _ _), (Fr.below hX).trans q2⟩
      unfold setD; rw [if_pos h0]; exact hP.dropD _ _
  have hSet : Hid (∀ (X : World) (uk uv : Value), Below W.heap.size W X → Src X uk (kd x.ow x.va) → Src X uv (dB x) → (∀ g, uk.ownBlock = some g → W.heap.size ≤ g) → (∀ g, uv.ownBlock = some g → W.heap.size ≤ g) → eq4 x.s0 x.s1 x.s2 x.s3 0 0 0 0 = false → x.va < V.length → Calls Try.prog 35 #[.pointer (some ⟨s, 0, none⟩), uk, uv] X fun e w' => (e = .returned (.tuple #[]) ∧ ∀ k, W.heap.size ≤ k → k < X.heap.size → w'.heap[k]? = X.heap[k]?) ∧ ∃ A' L', StD w' s base A' L' ds (n + 1) ∧ PoL L' V (setD D x) ∧ Oth poolB L L' ∧ Fr W w' A A') := fun X uk uv hX hk hv h1 h2 h0 hl => by
    have hd : DOk V.length x := ⟨hm, hl, hx.s, h0, hx.iw, hr⟩
    have := dB_len hd
    refine (stdSet (h.below hX) (by omega) hk hv (byte_kd hx.ow hx.va) (byte_dB hd) (by rw [kd_len]; omega) (by omega) (.inr fun g hg hA => ?_) (.inr fun g hg hA => ?_)).mono ?_
    · have := h1 g hg; have := (h.foot g hA).2; omega
    · have := h2 g hg; have := (h.foot g hA).2; omega
    · rintro e w' ⟨rfl, A', q1, q2⟩
      refine ⟨⟨rfl, fun k hk hk2 => q2.block k hk2 (fun hA => by have := (h.foot k hA).2; omega)⟩, A', _, q1, ?_, Oth.put (begs_kd _ _), (Fr.below hX).trans q2⟩
      unfold setD; rw [if_neg (by simp [h0])]; exact hP.putD hd
  have hdl : (dB x).length ≤ 1000 := by
    have h1 := coB_len hr
    have h3 := layN_len (val x.s0 x.s1 x.s2 x.s3)
    simp only [dB, List.length_append]; omega
  have hdb : Hid (dB x = layN (val x.s0 x.s1 x.s2 x.s3) ++ coB x.ix) := rfl
  generalize setD D x = D' at *
  generalize dB x = q at *
  generalize V.length = m at *
  obtain ⟨ow, va, s0, s1, s2, s3, ix⟩ := x
  simp only at hM hIs hfar hDel hSet hxs hiw hir hm hdb hva ⊢
  have hM : Hid _ := hM
  clear hP h hx hI hr
  have hA0 : (W.alloc (.cells #[.int .u8 (ow : Nat), .int .u8 (va : Nat), .int .u64 s0, .int .u64 s1, .int .u64 s2, .int .u64 s3, .slice a1 ix.length c1] 45)).heap[W.heap.size]? = some (.cells #[.int .u8 (ow : Nat), .int .u8 (va : Nat), .int .u64 s0, .int .u64 s1, .int .u64 s2, .int .u64 s3, .slice a1 ix.length c1] 45 (0, 0)) := al_at rfl
  have h2' : ¬ (200 : Int) ≤ (ow : Int) := by omega
  by_cases hl : va < m
  · rw [decide_eq_true hl] at hIs
    cases hz : eq4 s0 s1 s2 s3 0 0 0 0
    · clear hDel
      go_enter Try.func17, Try.ntmps17
      go_upto_region 8 with (first
        | (go_at_call 33; refine (hM.out _ (by (repeat (first | (with_reducible exact Below.refl _ _) | (with_reducible assumption) | (with_reducible apply bd) | (with_reducible apply ba) | (with_reducible refine bp ?_ (by first | omega | (simp [pad_size]; done) | (simp [pad_size]; omega)) _ _) | (with_reducible refine bs ?_ (by first | omega | (simp [pad_size]; done) | (simp [pad_size]; omega)) _) | (with_reducible refine bt ?_ (by assumption)))))).mono ?_; rintro e w1 ⟨rfl, hb1⟩; have q1 := (hb1.block W.heap.size (by simp)).trans hA0; have hB1 : Below W.heap.size W w1 := bt (by (repeat (first | (with_reducible exact Below.refl _ _) | (with_reducible assumption) | (with_reducible apply bd) | (with_reducible apply ba) | (with_reducible refine bp ?_ (by first | omega | (simp [pad_size]; done) | (simp [pad_size]; omega)) _ _) | (with_reducible refine bs ?_ (by first | omega | (simp [pad_size]; done) | (simp [pad_size]; omega)) _) | (with_reducible refine bt ?_ (by assumption))))) hb1; obtain ⟨e1, f1⟩ := cells_of_block q1)
        | (go_at_call 31; refine (hIs.out _ hB1).mono ?_; rintro e w2 ⟨rfl, hb2⟩; have q2 := (hb2.block W.heap.size (Array.getElem?_eq_some_iff.1 q1).1).trans q1; have hB2 := bt hB1 hb2; obtain ⟨e2, f2⟩ := cells_of_block q2; have z2 := (Array.getElem?_eq_some_iff.1 q2).1))
      clear e1 f1 hb1 hb2 hIs hM hB1 q1
      have hne : ¬ W.heap.size = w2.heap.size := by omega
      have hWr : WrAt (w2.alloc (.cells #[.slice none 0 0] 87)) w2.heap.size W.heap.size (.slice none 0 0) [] := ⟨al_at rfl, World.ownsRow_nil _ _ _ _⟩
      have hWs : (w2.alloc (.cells #[.slice none 0 0] 87)).heap.size = w2.heap.size + 1 := by simp
      go_region_held2 (fun Y => Y.cell? ⟨W.heap.size, 0, none⟩ = some (.int .u8 (ow : Nat)) ∧ Y.cell? ⟨W.heap.size, 1, none⟩ = some (.int .u8 (va : Nat)) ∧ Y.cell? ⟨W.heap.size, 2, none⟩ = some (.int .u64 s0) ∧ Y.cell? ⟨W.heap.size, 3, none⟩ = some (.int .u64 s1) ∧ Y.cell? ⟨W.heap.size, 4, none⟩ = some (.int .u64 s2) ∧ Y.cell? ⟨W.heap.size, 5, none⟩ = some (.int .u64 s3) ∧ Y.cell? ⟨W.heap.size, 6, none⟩ = some (.slice a1 ix.length c1)) (go_simp) (first
        | (go_at_call 28; refine (of2 (a := ow) (b := va) (by (repeat (first | (with_reducible exact al_at (by simp [pad_size])) | (with_reducible refine Eq.trans (dr_blk _ _) ?_) | (with_reducible refine Eq.trans (al_old (by first | omega | (simp [pad_size]; done) | (simp [pad_size]; omega))) ?_) | (with_reducible refine Eq.trans (pad_block (by first | omega | (simp [pad_size]; done) | (simp [pad_size]; omega)) (by first | omega | (simp [pad_size]; done) | (simp [pad_size]; omega))) ?_) | (with_reducible assumption))))).mono ?_; rintro e w3 ⟨cap, g, rfl, hsrc, hg1, hg2, hb3⟩; have hX3 : Below (w2.alloc (.cells #[.slice none 0 0] 87)).heap.size (w2.alloc (.cells #[.slice none 0 0] 87)) w3 := bt (by (repeat (first | (with_reducible exact Below.refl _ _) | (with_reducible assumption) | (with_reducible apply bd) | (with_reducible apply ba) | (with_reducible refine bp ?_ (by first | omega | (simp [pad_size]; done) | (simp [pad_size]; omega)) _ _) | (with_reducible refine bs ?_ (by first | omega | (simp [pad_size]; done) | (simp [pad_size]; omega)) _) | (with_reducible refine bt ?_ (by assumption))))) hb3; have hB3 : Below W.heap.size W w3 := bt (ba hB2 _) hX3; have q3 := (hX3.block W.heap.size (by omega)).trans ((al_old z2).trans q2); obtain ⟨e3, f3⟩ := cells_of_block q3; have hw3 := hWr.nb hX3; have z3 := hX3.size; have hgg : W.heap.size ≤ g := (by have := hB2.size; (first | omega | (simp at hg1; omega))); have hgb : ¬ g = w2.heap.size := (by first | omega | (simp at hg1; omega)))
        | (go_at_call 36; refine (wNumF s0 s1 s2 s3 hxs hw3 (by omega) (by simp)).mono ?_; rintro e w4 ⟨rfl, v4, hw4, hF4⟩; have n4 := hF4.own_ne (n := W.heap.size) (by omega) (by simp [Value.ownBlock]); have q4 := (hF4.block W.heap.size (by omega) hne (by simp [Value.ownBlock])).trans q3; obtain ⟨e4, f4⟩ := cells_of_block q4; have z4 := hF4.size; have y4 := layN_len (val s0 s1 s2 s3))
        | (go_at_call 37; refine (wCoinsF hw4 (by omega) hiw hir (by simp; omega) ((hfar.out w3 _ hB3 (by omega)).step hF4)).mono ?_; rintro e w5 ⟨rfl, v5, hw5, hF5⟩; have q5 := (hF5.block W.heap.size (by omega) hne n4).trans q4; obtain ⟨e5, f5⟩ := cells_of_block q5; have z5 := hF5.size; rw [List.nil_append, ← hdb.out] at hw5; have hB5 := WF.below hB3 (hF4.trans hF5) hw3 (by omega) (Nat.le_refl _); have hsrc5 := src_wf hsrc (hF4.trans hF5) hg2 hgb (by simp [Value.ownBlock]))
        | (go_at_call 38; refine (wDone_any hw5 (by omega)).mono ?_; rintro e w6 ⟨u, rfl, hu, hb6⟩; have q6 := (hb6.block W.heap.size (by omega)).trans q5; obtain ⟨e6, f6⟩ := cells_of_block q6; have hB6 := bt hB5 hb6; obtain ⟨hus, huo⟩ := row_src hu; have hsrc6 := hsrc5.kept (grown_none hb6))
        | (go_at_call 35; refine (hSet.out w6 _ _ hB6 hsrc6 hus (fun k hk => by simp [Value.ownBlock] at hk; omega) (fun k hk => by have := huo k hk; have := hB5.size; omega) hz hl).mono ?_; rintro e w7 ⟨⟨rfl, hk7⟩, hfin⟩; have q7 := (hk7 W.heap.size (Nat.le_refl _) (Array.getElem?_eq_some_iff.1 q6).1).trans q6; obtain ⟨e7, f7⟩ := cells_of_block q7))
      all_goals go_wp2
      all_goals go_ret
      all_goals exact .inl ⟨hl, rfl, hfin⟩
    · clear hSet
      go_enter Try.func17, Try.ntmps17
      go_wp2_with (first
        | (go_at_call 33; refine (hM.out _ (by (repeat (first | (with_reducible exact Below.refl _ _) | (with_reducible assumption) | (with_reducible apply bd) | (with_reducible apply ba) | (with_reducible refine bp ?_ (by first | omega | (simp [pad_size]; done) | (simp [pad_size]; omega)) _ _) | (with_reducible refine bs ?_ (by first | omega | (simp [pad_size]; done) | (simp [pad_size]; omega)) _) | (with_reducible refine bt ?_ (by assumption)))))).mono ?_; rintro e w1 ⟨rfl, hb1⟩; have q1 := (hb1.block W.heap.size (by simp)).trans hA0; have hB1 : Below W.heap.size W w1 := bt (by (repeat (first | (with_reducible exact Below.refl _ _) | (with_reducible assumption) | (with_reducible apply bd) | (with_reducible apply ba) | (with_reducible refine bp ?_ (by first | omega | (simp [pad_size]; done) | (simp [pad_size]; omega)) _ _) | (with_reducible refine bs ?_ (by first | omega | (simp [pad_size]; done) | (simp [pad_size]; omega)) _) | (with_reducible refine bt ?_ (by assumption))))) hb1; obtain ⟨e1, f1⟩ := cells_of_block q1)
        | (go_at_call 31; refine (hIs.out _ hB1).mono ?_; rintro e w2 ⟨rfl, hb2⟩; have q2 := (hb2.block W.heap.size (Array.getElem?_eq_some_iff.1 q1).1).trans q1; have hB2 := bt hB1 hb2; obtain ⟨e2, f2⟩ := cells_of_block q2)
        | (go_at_call 28; refine (of2 (a := ow) (b := va) (al_at rfl)).mono ?_; rintro e w3 ⟨cap, g, rfl, hsrc, hg1, hg2, hb3⟩; have hB3 : Below W.heap.size W w3 := bt (ba hB2 _) hb3; have hgg : W.heap.size ≤ g := by have := hB2.size; (first | omega | (simp at hg1; omega)))
        | (go_at_call 34; refine (hDel.out w3 _ hB3 hsrc (fun k hk => by simp [Value.ownBlock] at hk; omega) hz).mono ?_; rintro e w4 ⟨rfl, hfin⟩))
      go_ret
      exact .inl ⟨hl, rfl, hfin⟩
  · rw [decide_eq_false hl] at hIs
    clear hSet hDel
    go_enter Try.func17, Try.ntmps17
    go_wp2_with (first
      | (go_at_call 33; refine (hM.out _ (by (repeat (first | (with_reducible exact Below.refl _ _) | (with_reducible assumption) | (with_reducible apply bd) | (with_reducible apply ba) | (with_reducible refine bp ?_ (by first | omega | (simp [pad_size]; done) | (simp [pad_size]; omega)) _ _) | (with_reducible refine bs ?_ (by first | omega | (simp [pad_size]; done) | (simp [pad_size]; omega)) _) | (with_reducible refine bt ?_ (by assumption)))))).mono ?_; rintro e w1 ⟨rfl, hb1⟩; have q1 := (hb1.block W.heap.size (by simp)).trans hA0; have hB1 : Below W.heap.size W w1 := bt (by (repeat (first | (with_reducible exact Below.refl _ _) | (with_reducible assumption) | (with_reducible apply bd) | (with_reducible apply ba) | (with_reducible refine bp ?_ (by first | omega | (simp [pad_size]; done) | (simp [pad_size]; omega)) _ _) | (with_reducible refine bs ?_ (by first | omega | (simp [pad_size]; done) | (simp [pad_size]; omega)) _) | (with_reducible refine bt ?_ (by assumption))))) hb1; obtain ⟨e1, f1⟩ := cells_of_block q1)
      | (go_at_call 31; refine (hIs.out _ hB1).mono ?_; rintro e w2 ⟨rfl, hb2⟩; have hB2 := bt hB1 hb2))
    go_ret
    exact .inr ⟨Nat.le_of_not_lt hl, rfl, hB2⟩
end
end Go.Proofs.Ytafcianpajheiaa

/- pool: rows of validators and of delegations; a delegation of a store. -/
namespace Go.Proofs.Ytafcianpajheiaa
open Go.RowKit

theorem flat_len {α : Type} {f : α → List Value} {k : Nat} (hk : ∀ y, (f y).length = k) : ∀ M : List α, (M.flatMap f).length = M.length * k
  | [] => by simp
  | y :: M => by rw [List.flatMap_cons, List.length_append, flat_len hk M, hk, List.length_cons, Nat.add_mul]; omega
theorem flat_at {α : Type} {f : α → List Value} {k : Nat} (hk : ∀ y, (f y).length = k) : ∀ (M : List α) (i : Nat) (x : α), M[i]? = some x → ∀ j, j < k → (M.flatMap f)[i * k + j]? = (f x)[j]?
  | [], i, x, h, _, _ => by simp at h
  | y :: M, 0, x, h, j, hj => by
    simp at h; subst h
    rw [List.flatMap_cons, List.getElem?_append_left (by rw [hk]; omega)]
    simp
  | y :: M, i + 1, x, h, j, hj => by
    have ih := flat_at hk M i x (by simpa using h) j hj
    rw [List.flatMap_cons, List.getElem?_append_right (by rw [hk, Nat.add_mul]; omega), hk]
    rw [show (i + 1) * k + j - k = i * k + j by rw [Nat.add_mul]; omega]
    exact ih
theorem row_at {α : Type} {f : α → List Value} {k : Nat} (hk : ∀ y, (f y).length = k) {X : World} {base : Nat} {e : TypeId} {v : Value} {M : List α} (h : X.ownsRow base e k v M.length (M.flatMap f)) {i : Nat} (hi : i < M.length) : ∃ g cap, v = .slice (some ⟨g, 0, none⟩) M.length cap ∧ g < X.heap.size ∧ base ≤ g ∧ ∀ j, j < k → X.cell? ⟨g, i * k + j, none⟩ = (f M[i])[j]? := by
  rcases h.2 with ⟨_, h0⟩ | ⟨g, cap, cur, rfl, h1, h2, h3⟩
  · omega
  · refine ⟨g, cap, rfl, (Array.getElem?_eq_some_iff.1 h2).1, h1, fun j hj => ?_⟩
    have h4 := flat_at hk M i M[i] (List.getElem?_eq_getElem hi) j hj
    obtain ⟨u, hu⟩ : ∃ u, (f M[i])[j]? = some u := ⟨_, List.getElem?_eq_getElem (l := f M[i]) (by rw [hk M[i]]; exact hj)⟩
    rw [hu] at h4 ⊢
    have := h.cells (g := g) rfl (i * k + j) u h4
    rwa [add_cell, Nat.zero_add] at this
/-- A validator in a row: its number, what it is, where its coins lie. -/
structure Vx where
  i : Nat
  x : Vd
  a1 : Option Addr
  c1 : Nat
  a2 : Option Addr
  c2 : Nat
structure Dx where
  d : Dg
  a1 : Option Addr
  c1 : Nat
def vxC (y : Vx) : List Value := [.int .u8 (y.i : Nat), .int .u8 y.x.ow, .int .u16 y.x.rt, .bool y.x.jl, .int .u64 y.x.t0, .int .u64 y.x.t1, .int .u64 y.x.t2, .int .u64 y.x.t3, .int .u64 y.x.s0, .int .u64 y.x.s1, .int .u64 y.x.s2, .int .u64 y.x.s3, .slice y.a1 y.x.ix.length y.c1, .slice y.a2 y.x.er.length y.c2]
def dxC (y : Dx) : List Value := [.int .u8 (y.d.ow : Nat), .int .u8 (y.d.va : Nat), .int .u64 y.d.s0, .int .u64 y.d.s1, .int .u64 y.d.s2, .int .u64 y.d.s3, .slice y.a1 y.d.ix.length y.c1]
theorem vxC_len (y : Vx) : (vxC y).length = 14 := rfl
theorem dxC_len (y : Dx) : (dxC y).length = 7 := rfl
def VxCo (X : World) (y : Vx) : Prop := IsCoins X (.slice y.a1 y.x.ix.length y.c1) y.x.ix ∧ IsCoins X (.slice y.a2 y.x.er.length y.c2) y.x.er
def DxCo (X : World) (y : Dx) : Prop := IsCoins X (.slice y.a1 y.d.ix.length y.c1) y.d.ix
theorem VxCo.below {X Y : World} {y : Vx} (h : VxCo X y) (hb : Below X.heap.size X Y) : VxCo Y y := ⟨h.1.below hb, h.2.below hb⟩
theorem DxCo.below {X Y : World} {y : Dx} (h : DxCo X y) (hb : Below X.heap.size X Y) : DxCo Y y := IsCoins.below h hb
def VxOw (X : World) (b : Nat) (y : Vx) : Prop := X.ownsRow b 103 5 (.slice y.a1 y.x.ix.length y.c1) y.x.ix.length (cellsL y.x.ix) ∧ X.ownsRow b 103 5 (.slice y.a2 y.x.er.length y.c2) y.x.er.length (cellsL y.x.er)
def DxOw (X : World) (b : Nat) (y : Dx) : Prop := X.ownsRow b 103 5 (.slice y.a1 y.d.ix.length y.c1) y.d.ix.length (cellsL y.d.ix)
theorem VxOw.below {X Y : World} {b : Nat} {y : Vx} (h : VxOw X b y) (hb : Below X.heap.size X Y) : VxOw Y b y := ⟨own_below h.1 hb, own_below h.2 hb⟩
theorem DxOw.below {X Y : World} {b : Nat} {y : Dx} (h : DxOw X b y) (hb : Below X.heap.size X Y) : DxOw Y b y := own_below (show X.ownsRow b _ _ _ _ _ from h) hb
theorem VxOw.co {X : World} {b : Nat} {y : Vx} (h : VxOw X b y) (h1 : y.x.ix.length ≤ 1048576) (h2 : y.x.er.length ≤ 1048576) : VxCo X y := ⟨own_coins h.1 h1, own_coins h.2 h2⟩
theorem DxOw.co {X : World} {b : Nat} {y : Dx} (h : DxOw X b y) (h1 : y.d.ix.length ≤ 1048576) : DxCo X y := own_coins h h1
structure VRow (X : World) (base : Nat) (v : Value) (V : List Vd) (M : List Vx) : Prop where
  mp : M.map (·.x) = V
  ids : M.map (·.i) = List.range M.length
  row : X.ownsRow base 43 14 v M.length (M.flatMap vxC)
  co : ∀ y ∈ M, VxOw X base y
structure DRow (X : World) (base : Nat) (v : Value) (D : List Dg) (M : List Dx) : Prop where
  mp : M.map (·.d) = D
  row : X.ownsRow base 45 7 v M.length (M.flatMap dxC)
  co : ∀ y ∈ M, DxOw X base y
theorem VRow.below {X Y : World} {base : Nat} {v : Value} {V : List Vd} {M : List Vx} (h : VRow X base v V M) (hb : Below X.heap.size X Y) : VRow Y base v V M := ⟨h.mp, h.ids, own_below h.row hb, fun y hy => (h.co y hy).below hb⟩
theorem DRow.below {X Y : World} {base : Nat} {v : Value} {V : List Dg} {M : List Dx} (h : DRow X base v V M) (hb : Below X.heap.size X Y) : DRow Y base v V M := ⟨h.mp, own_below h.row hb, fun y hy => (h.co y hy).below hb⟩
theorem VRow.len {X : World} {base : Nat} {v : Value} {V : List Vd} {M : List Vx} (h : VRow X base v V M) : M.length = V.length := by rw [← h.mp, List.length_map]
theorem DRow.len {X : World} {base : Nat} {v : Value} {V : List Dg} {M : List Dx} (h : DRow X base v V M) : M.length = V.length := by rw [← h.mp, List.length_map]
theorem VRow.nil (X : World) (base : Nat) : VRow X base (.slice none 0 0) [] [] := ⟨rfl, rfl, World.ownsRow_nil _ _ _ _, by simp⟩
theorem DRow.nil (X : World) (base : Nat) : DRow X base (.slice none 0 0) [] [] := ⟨rfl, World.ownsRow_nil _ _ _ _, by simp⟩
theorem VRow.snoc {X Y : World} {b : Nat} {v v' : Value} {V : List Vd} {M : List Vx} {y : Vx} (h : VRow X b v V M) (hg : X.grownBy Y v.ownBlock) (hr : Y.ownsRow b 43 14 v' (M ++ [y]).length ((M ++ [y]).flatMap vxC)) (hy : VxOw X b y) (hi : y.i = M.length) : VRow Y b v' (V ++ [y.x]) (M ++ [y]) := by
  have hk : ∀ z, VxOw X b z → VxOw Y b z := fun z hz => ⟨hz.1.kept hg (rows_apart hz.1 h.row (by decide)), hz.2.kept hg (rows_apart hz.2 h.row (by decide))⟩
  refine ⟨by rw [List.map_append, h.mp]; rfl, by rw [List.map_append, h.ids, List.length_append, List.map_cons, List.map_nil, hi]; simp [List.range_succ], hr, fun z hz => ?_⟩
  rcases List.mem_append.1 hz with hz | hz
  · exact hk z (h.co z hz)
  · rw [List.mem_singleton] at hz; subst hz; exact hk _ hy
theorem DRow.snoc {X Y : World} {b : Nat} {v v' : Value} {V : List Dg} {M : List Dx} {y : Dx} (h : DRow X b v V M) (hg : X.grownBy Y v.ownBlock) (hr : Y.ownsRow b 45 7 v' (M ++ [y]).length ((M ++ [y]).flatMap dxC)) (hy : DxOw X b y) : DRow Y b v' (V ++ [y.d]) (M ++ [y]) := by
  have hk : ∀ z, DxOw X b z → DxOw Y b z := fun z hz => World.ownsRow.kept hz hg (rows_apart hz h.row (by decide))
  refine ⟨by rw [List.map_append, h.mp]; rfl, hr, fun z hz => ?_⟩
  rcases List.mem_append.1 hz with hz | hz
  · exact hk z (h.co z hz)
  · rw [List.mem_singleton] at hz; subst hz; exact hk _ hy
theorem val_info : (Try.prog.info? 43).map (fun i => (i.zero, i.size, i.bytes)) = some (some (.agg #[.int .u8 0, .int .u8 0, .int .u16 0, .bool false, .int .u64 0, .int .u64 0, .int .u64 0, .int .u64 0, .int .u64 0, .int .u64 0, .int .u64 0, .int .u64 0, .slice none 0 0, .slice none 0 0]), 14, 120) := by kernel_rfl
theorem del_info : (Try.prog.info? 45).map (fun i => (i.zero, i.size, i.bytes)) = some (some (.agg #[.int .u8 0, .int .u8 0, .int .u64 0, .int .u64 0, .int .u64 0, .int .u64 0, .slice none 0 0]), 7, 64) := by kernel_rfl
theorem one_cells (l : List Value) (h : ∀ u ∈ l, u.oneCell' = true) : ∀ u ∈ l, u.oneCell' = true := h
theorem vxC_one (y : Vx) : ∀ u ∈ vxC y, u.oneCell' = true := by intro u hu; simp only [vxC, List.mem_cons, List.not_mem_nil, or_false] at hu; rcases hu with h | h | h | h | h | h | h | h | h | h | h | h | h | h <;> (subst h; rfl)
theorem dxC_one (y : Dx) : ∀ u ∈ dxC y, u.oneCell' = true := by intro u hu; simp only [dxC, List.mem_cons, List.not_mem_nil, or_false] at hu; rcases hu with h | h | h | h | h | h | h <;> (subst h; rfl)
/-- A validator behind a row. -/
theorem vx_app {W X : World} {v : Value} {M : List Vx} (y : Vx) (hr : X.ownsRow W.heap.size 43 14 v M.length (M.flatMap vxC)) (hb : Below W.heap.size W X) (hl : M.length ≤ 1000) {ops : Array Oper} {rest : List Oper} {o : Oper} {a : Act} {Q : Exit → Act → World → Prop} (hgd : o.guard = none) (s x : Operand)
    (ho : o.op = .call { callee := .builtin .append, args := #[s, x], argTypes := #[32, 32] }) (hs : a.eval s = v) {g : Nat} (hx : a.eval x = .slice (some ⟨g, 0, none⟩) 1 1) (hc : X.heap[g]? = some (.cells (vxC y).toArray 43 (0, 0)))
    (k : ∀ v' w', w'.ownsRow W.heap.size 43 14 v' (M ++ [y]).length ((M ++ [y]).flatMap vxC) → Below W.heap.size W w' → X.grownBy w' v.ownBlock → wpList Try.prog ops Q rest (a.put o.dst v') w') : wpList Try.prog ops Q (o :: rest) a X := by
  obtain ⟨i0, hi, hz0, hz1, hz2⟩ := info_parts val_info
  refine wpList_plain hgd fun _ hK => ?_
  refine wp_append_own_at X s x 32 ho W.heap.size 43 i0 _ 14 120 Try.underlying32 hi hz0 hz1 hz2 rfl (by decide) v M.length (M.flatMap vxC) hs hr ⟨g, 0, none⟩ 1 1 (vxC y) hx rfl (fun j u hj => by rw [add_cell, Nat.zero_add, (cells_of_block hc).1]; simpa using hj) (vxC_one y) (by unfold maxLen; omega) (by omega) hb.size ?_
  intro u' w' hown hg _ hat
  exact hK _ _ (k u' w' (by rw [List.length_append, List.flatMap_append]; simpa using hown) (hb.grown hg hb.size (fun k hk => (hr.lt k hk).1)) hg)
theorem dx_app {W X : World} {v : Value} {M : List Dx} (y : Dx) (hr : X.ownsRow W.heap.size 45 7 v M.length (M.flatMap dxC)) (hb : Below W.heap.size W X) (hl : M.length ≤ 1100) {ops : Array Oper} {rest : List Oper} {o : Oper} {a : Act} {Q : Exit → Act → World → Prop} (hgd : o.guard = none) (s x : Operand)
    (ho : o.op = .call { callee := .builtin .append, args := #[s, x], argTypes := #[33, 33] }) (hs : a.eval s = v) {g : Nat} (hx : a.eval x = .slice (some ⟨g, 0, none⟩) 1 1) (hc : X.heap[g]? = some (.cells (dxC y).toArray 45 (0, 0)))
    (k : ∀ v' w', w'.ownsRow W.heap.size 45 7 v' (M ++ [y]).length ((M ++ [y]).flatMap dxC) → Below W.heap.size W w' → X.grownBy w' v.ownBlock → wpList Try.prog ops Q rest (a.put o.dst v') w') : wpList Try.prog ops Q (o :: rest) a X := by
  obtain ⟨i0, hi, hz0, hz1, hz2⟩ := info_parts del_info
  refine wpList_plain hgd fun _ hK => ?_
  refine wp_append_own_at X s x 33 ho W.heap.size 45 i0 _ 7 64 Try.underlying33 hi hz0 hz1 hz2 rfl (by decide) v M.length (M.flatMap dxC) hs hr ⟨g, 0, none⟩ 1 1 (dxC y) hx rfl (fun j u hj => by rw [add_cell, Nat.zero_add, (cells_of_block hc).1]; simpa using hj) (dxC_one y) (by unfold maxLen; omega) (by omega) hb.size ?_
  intro u' w' hown hg _ hat
  exact hK _ _ (k u' w' (by rw [List.length_append, List.flatMap_append]; simpa using hown) (hb.grown hg hb.size (fun k hk => (hr.lt k hk).1)) hg)
section
variable {W : World} {s base : Nat} {A : Nat → Prop} {L : List (List Int × List Int)} {ds : List (List (List Int × List Int))} {n : Nat} {V : List Vd} {D : List Dg}
set_option maxRecDepth 20000 in
set_option maxHeartbeats 8000000 in
theorem getD_any {x : Dg} (h : StD W s base A L ds n) (hP : PoL L V D) (hn : n ≤ 1000) (hx : x ∈ D) :
    Calls Try.prog 19 #[.pointer (some ⟨s, 0, none⟩), .int .u8 (x.ow : Nat), .int .u8 (x.va : Nat)] W fun e w' => ∃ a1 c1, e = .returned (.tuple #[.agg #[.int .u8 (x.ow : Nat), .int .u8 (x.va : Nat), .int .u64 x.s0, .int .u64 x.s1, .int .u64 x.s2, .int .u64 x.s3, .slice a1 x.ix.length c1], .bool true]) ∧ w'.ownsRow W.heap.size 103 5 (.slice a1 x.ix.length c1) x.ix.length (cellsL x.ix) ∧ Below W.heap.size W w' := by
  have hok := hP.dok x hx
  have hvl := hP.vlen
  have hG : Hid (∀ (X : World) (u : Value), Below W.heap.size W X → Src X u (kd x.ow x.va) → Calls Try.prog 39 #[.pointer (some ⟨s, 0, none⟩), u] X fun e w' => ∃ a c, e = .returned (.tuple #[.slice a (dB x).length c, .bool true]) ∧ Src w' (.slice a (dB x).length c) (dB x) ∧ Below X.heap.size X w') := fun X u hX hu => stdGet_yes (h.below hX) hn hu (byte_kd (by have := hok.ow; omega) (by have := hok.va; omega)) (hP.getD_yes hx) (dB_ne x)
  have hdl := dB_len hok
  have hdb := byte_dB hok
  have hdB : Hid (dB x = layN (val x.s0 x.s1 x.s2 x.s3) ++ (coB x.ix ++ [])) := by show _ = _; simp [dB]
  have hs := hok.s
  have hiw := hok.iw
  have hir := hok.ir
  clear hok hP h hx
  generalize dB x = q at *
  obtain ⟨ow, va, s0, s1, s2, s3, ix⟩ := x
  simp only at hG hdB hs hiw hir ⊢
  have hA0 : (W.alloc (.cells #[.int .u8 0, .int .u8 0, .int .u64 0, .int .u64 0, .int .u64 0, .int .u64 0, .slice none 0 0] 45)).heap[W.heap.size]? = some (.cells #[.int .u8 0, .int .u8 0, .int .u64 0, .int .u64 0, .int .u64 0, .int .u64 0, .slice none 0 0] 45 (0, 0)) := al_at rfl
  go_enter Try.func19, Try.ntmps19
  go_wp2_with (first
    | (go_at_call 28; refine (of2 (a := ow) (b := va) (al_at (by simp))).mono ?_; rintro e w1 ⟨cap, g, rfl, hsrc, hg1, hg2, hb1⟩; have hB1 : Below W.heap.size W w1 := bt (by (repeat (first | (with_reducible exact Below.refl _ _) | (with_reducible assumption) | (with_reducible apply bd) | (with_reducible apply ba) | (with_reducible refine bp ?_ (by first | omega | (simp [pad_size]; done) | (simp [pad_size]; omega)) _ _) | (with_reducible refine bs ?_ (by first | omega | (simp [pad_size]; done) | (simp [pad_size]; omega)) _) | (with_reducible refine bt ?_ (by assumption))))) hb1; have q1 := (hb1.block W.heap.size (by simp; omega)).trans ((al_old (by simp)).trans hA0); have hGet := hG.out w1 _ hB1 hsrc)
    | (go_at_call 39; refine hGet.mono ?_; clear hGet; rintro e w2 ⟨a, c, rfl, hv, hb2⟩; have hB2 := bt hB1 hb2; have q2 := (hb2.block W.heap.size (Array.getElem?_eq_some_iff.1 q1).1).trans q1; have hRd := read_new (by omega) hdb hv)
    | (go_at_call 41; refine hRd.mono ?_; clear hRd; rintro e w3 ⟨b, D, rfl, hr3, hb, hD, hDl, hb3⟩; have hB3 := bt hB2 hb3; have q3 := (hb3.block W.heap.size (Array.getElem?_eq_some_iff.1 q2).1).trans q2; have z2 := (Array.getElem?_eq_some_iff.1 q2).1; rw [hdB.out] at hr3; have d3 : ∀ d, D = some d → d < w3.heap.size := fun d hd => (hDl d hd).2; have hnb : some W.heap.size ≠ some b := (by simp; omega))
    | (go_at_call 44; with_reducible refine (rdNum hs hD d3 hr3).mono ?_; rintro e w4 ⟨rfl, hr4, k4⟩; have d4 := dlt_of d3 k4; have q4 := (k4.block W.heap.size (Array.getElem?_eq_some_iff.1 q3).1 hnb).trans q3)
    | (go_at_call 45; with_reducible refine (rdCoins hiw hir hD d4 hr4).mono ?_; rintro e w5 ⟨a1, c1, rfl, u1, hr5, k5⟩; have q5 := (k5.block W.heap.size (Array.getElem?_eq_some_iff.1 q4).1 hnb).trans q4; obtain ⟨e5, f5⟩ := cells_of_block q5; have z5 := (Array.getElem?_eq_some_iff.1 q5).1; have hB5 := below_grown hB3 (grown_tr k4 k5) (by omega))
    | (go_at_call 43; refine (rEnd_any (hr5.nn (grown_none (by (repeat (first | (with_reducible exact Below.refl _ _) | (with_reducible assumption) | (with_reducible apply bd) | (with_reducible apply ba) | (with_reducible refine bp ?_ (by first | omega | (simp [pad_size]; done) | (simp [pad_size]; omega)) _ _) | (with_reducible refine bs ?_ (by first | omega | (simp [pad_size]; done) | (simp [pad_size]; omega)) _) | (with_reducible refine bt ?_ (by assumption)))))))).mono ?_; rintro e w6 ⟨rfl, rfl⟩))
  have z4 := (Array.getElem?_eq_some_iff.1 q4).1
  have z3 := bt hB2 hb3
  have y3 := Nat.le_trans z3.size k4.size
  have hh : ∀ Y, w5.grownBy Y (some W.heap.size) → ∃ b1 d1, Ending.returned (.tuple #[.agg #[.int .u8 (ow : Nat), .int .u8 (va : Nat), .int .u64 s0, .int .u64 s1, .int .u64 s2, .int .u64 s3, .slice a1 ix.length c1], .bool true]) = .returned (.tuple #[.agg #[.int .u8 (ow : Nat), .int .u8 (va : Nat), .int .u64 s0, .int .u64 s1, .int .u64 s2, .int .u64 s3, .slice b1 ix.length d1], .bool true]) ∧ Y.ownsRow W.heap.size 103 5 (.slice b1 ix.length d1) ix.length (cellsL ix) ∧ Below W.heap.size W Y := by
    intro Y hY
    exact ⟨a1, c1, rfl, row_base (u1.kept hY (own_not fun e => by have := (u1.lt _ e).1; omega)) y3, below_grown hB5 hY (Nat.le_refl _)⟩
  refine bodyPost_ret (v := .tuple #[.agg #[.int .u8 (ow : Nat), .int .u8 (va : Nat), .int .u64 s0, .int .u64 s1, .int .u64 s2, .int .u64 s3, .slice a1 ix.length c1], .bool true]) (by simp only [results, Try.results19]; go_simp) rfl (hh _ ?_)
  repeat (first | (with_reducible exact grown_ref _ _) | (with_reducible apply grown_se) | (with_reducible apply grown_al))
set_option maxHeartbeats 8000000 in
theorem getD_not {a b : Nat} (h : StD W s base A L ds n) (hP : PoL L V D) (hn : n ≤ 1000) (ha : a ≤ 255) (hb : b ≤ 255) (hx : ∀ d ∈ D, ¬ (d.ow = a ∧ d.va = b)) :
    Calls Try.prog 19 #[.pointer (some ⟨s, 0, none⟩), .int .u8 a, .int .u8 b] W fun e w' => e = .returned (.tuple #[.agg #[.int .u8 0, .int .u8 0, .int .u64 0, .int .u64 0, .int .u64 0, .int .u64 0, .slice none 0 0], .bool false]) ∧ Below W.heap.size W w' := by
  have hG : Hid (∀ (X : World) (u : Value), Below W.heap.size W X → Src X u (kd a b) → Calls Try.prog 39 #[.pointer (some ⟨s, 0, none⟩), u] X fun e w' => e = .returned (.tuple #[.slice none 0 0, .bool false]) ∧ Below X.heap.size X w') := fun X u hX hu => stdGet_no (h.below hX) hn hu (byte_kd ha hb) (hP.getD_no hx)
  clear hP h hx
  have hA0 : (W.alloc (.cells #[.int .u8 0, .int .u8 0, .int .u64 0, .int .u64 0, .int .u64 0, .int .u64 0, .slice none 0 0] 45)).heap[W.heap.size]? = some (.cells #[.int .u8 0, .int .u8 0, .int .u64 0, .int .u64 0, .int .u64 0, .int .u64 0, .slice none 0 0] 45 (0, 0)) := al_at rfl
  go_enter Try.func19, Try.ntmps19
  go_wp2_with (first
    | (go_at_call 28; refine (of2 (a := a) (b := b) (al_at (by simp))).mono ?_; rintro e w1 ⟨cap, g, rfl, hsrc, hg1, hg2, hb1⟩; have hB1 : Below W.heap.size W w1 := bt (by (repeat (first | (with_reducible exact Below.refl _ _) | (with_reducible assumption) | (with_reducible apply bd) | (with_reducible apply ba) | (with_reducible refine bp ?_ (by first | omega | (simp [pad_size]; done) | (simp [pad_size]; omega)) _ _) | (with_reducible refine bs ?_ (by first | omega | (simp [pad_size]; done) | (simp [pad_size]; omega)) _) | (with_reducible refine bt ?_ (by assumption))))) hb1; have q1 := (hb1.block W.heap.size (by simp; omega)).trans ((al_old (by simp)).trans hA0); have hGet := hG.out w1 _ hB1 hsrc)
    | (go_at_call 39; refine hGet.mono ?_; clear hGet; rintro e w2 ⟨rfl, hb2⟩; have hB2 := bt hB1 hb2; have q2 := (hb2.block W.heap.size (Array.getElem?_eq_some_iff.1 q1).1).trans q1; have z2 := (Array.getElem?_eq_some_iff.1 q2).1; obtain ⟨e2, f2⟩ := cells_of_block q2))
  refine bodyPost_ret (v := .tuple #[.agg #[.int .u8 0, .int .u8 0, .int .u64 0, .int .u64 0, .int .u64 0, .int .u64 0, .slice none 0 0], .bool false]) (by simp only [results, Try.results19]; go_simp) rfl ⟨rfl, ?_⟩
  refine below_grown hB2 ?_ (Nat.le_refl _)
  repeat (first | (with_reducible exact grown_ref _ _) | (with_reducible apply grown_se))
end
end Go.Proofs.Ytafcianpajheiaa

/- pool: all validators; delegations whose keys begin so. -/
namespace Go.Proofs.Ytafcianpajheiaa
open Go.RowKit

theorem take_snoc {α : Type} {l : List α} {j : Nat} (h : j < l.length) : l.take (j + 1) = l.take j ++ [l[j]] := List.take_succ_eq_append_getElem h
section
variable {W : World} {s base : Nat} {A : Nat → Prop} {L : List (List Int × List Int)} {ds : List (List (List Int × List Int))} {n : Nat} {V : List Vd} {D : List Dg}
set_option maxRecDepth 20000 in
set_option maxHeartbeats 8000000 in
theorem vals_any (h : StD W s base A L ds n) (hP : PoL L V D) (hn : n ≤ 1000) :
    Calls Try.prog 22 #[.pointer (some ⟨s, 0, none⟩)] W fun e w' => ∃ v M, e = .returned v ∧ VRow w' W.heap.size v V M ∧ Below W.heap.size W w' := by
  have hvl := hP.vlen
  have hY : Hid (∀ (X : World) (i : Nat) (x : Vd), Below W.heap.size W X → V[i]? = some x → Calls Try.prog 18 #[.pointer (some ⟨s, 0, none⟩), .int .u8 i] X fun e w' => ∃ a1 c1 a2 c2, e = .returned (.tuple #[.agg #[.int .u8 i, .int .u8 x.ow, .int .u16 x.rt, .bool x.jl, .int .u64 x.t0, .int .u64 x.t1, .int .u64 x.t2, .int .u64 x.t3, .int .u64 x.s0, .int .u64 x.s1, .int .u64 x.s2, .int .u64 x.s3, .slice a1 x.ix.length c1, .slice a2 x.er.length c2], .bool true]) ∧
      w'.ownsRow X.heap.size 103 5 (.slice a1 x.ix.length c1) x.ix.length (cellsL x.ix) ∧ w'.ownsRow X.heap.size 103 5 (.slice a2 x.er.length c2) x.er.length (cellsL x.er) ∧ Below X.heap.size X w') := fun X i x hX hi => val_yes (h.below hX) hP hn hi
  have hN : Hid (∀ (X : World) (i : Nat), Below W.heap.size W X → V.length ≤ i → i ≤ 255 → Calls Try.prog 18 #[.pointer (some ⟨s, 0, none⟩), .int .u8 i] X fun e w' => e = .returned (.tuple #[.agg #[.int .u8 0, .int .u8 0, .int .u16 0, .bool false, .int .u64 0, .int .u64 0, .int .u64 0, .int .u64 0, .int .u64 0, .int .u64 0, .int .u64 0, .int .u64 0, .slice none 0 0, .slice none 0 0], .bool false]) ∧ Below X.heap.size X w') := fun X i hX hi hi2 => val_no (h.below hX) hP hn hi hi2
  have hlen : Hid (∀ x ∈ V, x.ix.length ≤ 1048576 ∧ x.er.length ≤ 1048576) := fun x hx => by
    have h1 := right_len (hP.vok x hx).ir
    have h2 := right_len (hP.vok x hx).er
    exact ⟨by omega, by omega⟩
  clear hP h
  go_enter Try.func22, Try.ntmps22
  go_wp2
  go_loopw [3, 7] (fun v3 v7 X => ∃ (j : Nat) (M : List Vx), j ≤ 16 ∧ v7 = .int .u8 (j : Int) ∧ VRow X W.heap.size v3 (V.take j) M ∧ Below W.heap.size W X) (fun _ v7 _ => 16 - (intOf v7).toNat)
  case atStart => exact ⟨0, [], by omega, rfl, VRow.nil _ _, Below.refl _ _⟩
  case round =>
    obtain ⟨j, M, hj, rfl, hM, hX⟩ := hrel
    obtain ⟨av, cv, rfl⟩ := row_slice hM.row
    have hMl : M.length ≤ 16 := by have := hM.len; rw [List.length_take] at this; omega
    by_cases hj16 : j < 16
    · have hj' : (j : Int) < 16 := by omega
      have hwr : IntKind.u8.wrap ((j : Int) + 1) = ((j + 1 : Nat) : Int) := by rw [IntKind.wrap_u8]; omega
      by_cases hjl : j < V.length
      · have hC := hY.out wr j V[j] hX (List.getElem?_eq_getElem hjl)
        have hln := hlen.out V[j] (List.getElem_mem hjl)
        have htk : Hid (V.take (j + 1) = V.take j ++ [V[j]]) := take_snoc hjl
        have hMj : Hid (M.length = j) := by show _ = _; rw [hM.len, List.length_take]; omega
        generalize V[j] = x at *
        obtain ⟨ow, rt, jl, t0, t1, t2, t3, s0, s1, s2, s3, ix, er⟩ := x
        simp only at hC hln
        have hM : Hid (VRow _ _ _ _ _) := hM
        go_wp2_with (first
          | (go_at_call 18; refine hC.mono ?_; clear hC; rintro e w1 ⟨a1, c1, a2, c2, rfl, u1, u2, hb1⟩; have hB1 := bt hX hb1)
          | (at_builtin; refine vx_app (W := W) (M := M) ⟨j, ⟨ow, rt, jl, t0, t1, t2, t3, s0, s1, s2, s3, ix, er⟩, a1, c1, a2, c2⟩ (own_below hM.out.row (bt hb1 (by (repeat (first | (with_reducible exact Below.refl _ _) | (with_reducible assumption) | (with_reducible apply bd) | (with_reducible apply ba) | (with_reducible refine bp ?_ (by first | omega | (simp [pad_size]; done) | (simp [pad_size]; omega)) _ _) | (with_reducible refine bs ?_ (by first | omega | (simp [pad_size]; done) | (simp [pad_size]; omega)) _) | (with_reducible refine bt ?_ (by assumption))))))) (bt hB1 (by (repeat (first | (with_reducible exact Below.refl _ _) | (with_reducible assumption) | (with_reducible apply bd) | (with_reducible apply ba) | (with_reducible refine bp ?_ (by first | omega | (simp [pad_size]; done) | (simp [pad_size]; omega)) _ _) | (with_reducible refine bs ?_ (by first | omega | (simp [pad_size]; done) | (simp [pad_size]; omega)) _) | (with_reducible refine bt ?_ (by assumption)))))) (by omega) rfl _ _ rfl rfl rfl (al_at (by simp)) ?_; intro v' w2 hr2 hb2 hg2))
        all_goals go_roundw
        case rel => exact ⟨j + 1, _, by omega, by go_num, by rw [htk.out]; exact (hM.out.below (bt hb1 (by (repeat (first | (with_reducible exact Below.refl _ _) | (with_reducible assumption) | (with_reducible apply bd) | (with_reducible apply ba) | (with_reducible refine bp ?_ (by first | omega | (simp [pad_size]; done) | (simp [pad_size]; omega)) _ _) | (with_reducible refine bs ?_ (by first | omega | (simp [pad_size]; done) | (simp [pad_size]; omega)) _) | (with_reducible refine bt ?_ (by assumption))))))).snoc hg2 hr2 (VxOw.below ⟨row_base u1 hX.size, row_base u2 hX.size⟩ (by (repeat (first | (with_reducible exact Below.refl _ _) | (with_reducible assumption) | (with_reducible apply bd) | (with_reducible apply ba) | (with_reducible refine bp ?_ (by first | omega | (simp [pad_size]; done) | (simp [pad_size]; omega)) _ _) | (with_reducible refine bs ?_ (by first | omega | (simp [pad_size]; done) | (simp [pad_size]; omega)) _) | (with_reducible refine bt ?_ (by assumption)))))) hMj.out.symm, hb2⟩
        case measure => (simp [intOf] <;> omega)
      · have hC := hN.out wr j hX (by omega) (by omega)
        have htk : Hid (V.take (j + 1) = V.take j) := by show _ = _; rw [List.take_of_length_le (by omega), List.take_of_length_le (by omega)]
        have hM : Hid (VRow _ _ _ _ _) := hM
        go_wp2_with (go_at_call 18; refine hC.mono ?_; clear hC; rintro e w1 ⟨rfl, hb1⟩; have hB1 := bt hX hb1)
        all_goals go_roundw
        case rel => exact ⟨j + 1, M, by omega, by go_num, by rw [htk.out]; exact hM.out.below (bt hb1 (by (repeat (first | (with_reducible exact Below.refl _ _) | (with_reducible assumption) | (with_reducible apply bd) | (with_reducible apply ba) | (with_reducible refine bp ?_ (by first | omega | (simp [pad_size]; done) | (simp [pad_size]; omega)) _ _) | (with_reducible refine bs ?_ (by first | omega | (simp [pad_size]; done) | (simp [pad_size]; omega)) _) | (with_reducible refine bt ?_ (by assumption)))))), by (repeat (first | (with_reducible exact Below.refl _ _) | (with_reducible assumption) | (with_reducible apply bd) | (with_reducible apply ba) | (with_reducible refine bp ?_ (by first | omega | (simp [pad_size]; done) | (simp [pad_size]; omega)) _ _) | (with_reducible refine bs ?_ (by first | omega | (simp [pad_size]; done) | (simp [pad_size]; omega)) _) | (with_reducible refine bt ?_ (by assumption))))⟩
        case measure => (simp [intOf] <;> omega)
    · obtain rfl : j = 16 := by omega
      rw [List.take_of_length_le (by omega)] at hM
      have hM : Hid (VRow _ _ _ _ _) := hM
      go_wp2
      go_ret
      exact ⟨_, M, rfl, hM.out, hX⟩
theorem DRow.down {X : World} {b b' : Nat} {v : Value} {V : List Dg} {M : List Dx} (h : DRow X b v V M) (hb : b' ≤ b) : DRow X b' v V M := ⟨h.mp, row_base h.row hb, fun y hy => row_base (h.co y hy) hb⟩
theorem bdn (w : World) (k : Nat) : Below w.heap.size w (w.drewN k) := ⟨rfl, rfl, rfl, Nat.le_refl _, fun _ _ => rfl⟩
/-- A delegation's key in a list of keys. -/
theorem kdst_at {X : World} {v : Value} {T : List Dg} (h : Kst X v (T.map (fun d => kd d.ow d.va))) {j : Nat} (hj : j < T.length) : ∃ g cap blk off c, v = .slice (some ⟨g, 0, none⟩) T.length cap ∧ g < X.heap.size ∧ X.cell? ⟨g, j, none⟩ = some (.slice (some ⟨blk, off, none⟩) 11 c) ∧ blk < X.heap.size ∧ X.cell? ⟨blk, off + 9, none⟩ = some (.int .u8 (T[j].ow : Nat)) ∧ X.cell? ⟨blk, off + 10, none⟩ = some (.int .u8 (T[j].va : Nat)) := by
  obtain ⟨g, cap, a, c, e, h1, h2, h3⟩ := h.2 j (by simpa using hj)
  simp only [List.getElem_map, List.length_map] at e h2 h3
  rw [kd_len] at h2 h3
  rcases h3 with ⟨h4, -⟩ | ⟨blk, off, c', e2, h4, h5, h6⟩
  · simp [kd, hasP] at h4
  · simp at e2
    obtain ⟨rfl, -, rfl⟩ := e2
    exact ⟨g, cap, blk, off, c, e, h1, h2, h5, h6 9 _ (by simp [kd, hasP]), h6 10 _ (by simp [kd, hasP])⟩
set_option maxRecDepth 20000 in
set_option maxHeartbeats 8000000 in
theorem told_any {u : Value} {p : List Int} {T : List Dg} (h : StD W s base A L ds n) (hP : PoL L V D) (hn : n ≤ 1000) (hu : Src W u p) (hp : Byte p) (hpl : p.length ≤ 1000) (hk : keysS L p = T.map (fun d => kd d.ow d.va)) (hT : ∀ d ∈ T, d ∈ D) (hTl : T.length ≤ 1000) :
    Calls Try.prog 27 #[.pointer (some ⟨s, 0, none⟩), u] W fun e w' => ∃ v M, e = .returned v ∧ DRow w' W.heap.size v T M ∧ Below W.heap.size W w' := by
  have hK := stdKeys h hn hu hp (by omega)
  rw [hk] at hK
  have hG : Hid (∀ (X : World) (x : Dg), Below W.heap.size W X → x ∈ T → Calls Try.prog 19 #[.pointer (some ⟨s, 0, none⟩), .int .u8 (x.ow : Nat), .int .u8 (x.va : Nat)] X fun e w' => ∃ a1 c1, e = .returned (.tuple #[.agg #[.int .u8 (x.ow : Nat), .int .u8 (x.va : Nat), .int .u64 x.s0, .int .u64 x.s1, .int .u64 x.s2, .int .u64 x.s3, .slice a1 x.ix.length c1], .bool true]) ∧ w'.ownsRow X.heap.size 103 5 (.slice a1 x.ix.length c1) x.ix.length (cellsL x.ix) ∧ Below X.heap.size X w') := fun X x hX hx => getD_any (h.below hX) hP hn (hT x hx)
  obtain ⟨su, cu, rfl, -⟩ := hu.parts
  clear hP h hu hk hT hp
  go_enter Try.func27, Try.ntmps27
  go_wp2_with (go_at_call 48; refine hK.mono ?_; rintro e w1 ⟨v, rfl, hk, hb1⟩; have hB1 : Below W.heap.size W w1 := bt (by (repeat (first | (with_reducible exact Below.refl _ _) | (with_reducible assumption) | (with_reducible apply bd) | (with_reducible apply ba) | (with_reducible refine bp ?_ (by first | omega | (simp [pad_size]; done) | (simp [pad_size]; omega)) _ _) | (with_reducible refine bs ?_ (by first | omega | (simp [pad_size]; done) | (simp [pad_size]; omega)) _) | (with_reducible refine bt ?_ (by assumption))))) hb1; obtain ⟨ak, ck, rfl⟩ := hk.1; clear hb1; rw [List.length_map] at *)
  go_loopw [5, 16] (fun v5 v16 X => ∃ (j : Nat) (M : List Dx), j ≤ T.length ∧ v16 = .int .i64 (j : Int) ∧ DRow X w1.heap.size v5 (T.take j) M ∧ Below w1.heap.size w1 X) (fun _ v16 _ => T.length - (intOf v16).toNat)
  case atStart => exact ⟨0, [], by omega, rfl, DRow.nil _ _, Below.refl _ _⟩
  case round =>
    obtain ⟨j, M, hj, rfl, hM, hX⟩ := hrel
    obtain ⟨av, cv, rfl⟩ := row_slice hM.row
    have hMl : M.length ≤ 1000 := by have := hM.len; rw [List.length_take] at this; omega
    by_cases hlt : j < T.length
    · obtain ⟨g, cp, blk, off, c, ev, hg, hc0, hbl, c9, c10⟩ := kdst_at hk hlt
      simp at ev
      obtain ⟨rfl, rfl⟩ := ev
      have hlt' : (j : Int) < (T.length : Int) := by omega
      have hdl : decide ((j : Int) < (T.length : Int)) = true := by simpa using hlt
      have hC : Hid (∀ X, Below wr.heap.size wr X → _) := fun X hXX => hG.out X T[j] (bt hB1 (bt hX hXX)) (List.getElem_mem hlt)
      have htk : Hid (T.take (j + 1) = T.take j ++ [T[j]]) := take_snoc hlt
      generalize T[j] = x at *
      obtain ⟨ow, va, s0, s1, s2, s3, ix⟩ := x
      simp only at hC c9 c10
      have hM : Hid (DRow _ _ _ _ _) := hM
      have c0 := (hX.cell (p := ⟨g, j, none⟩) hg).trans hc0
      have k9 := (hX.cell (p := ⟨blk, off + 9, none⟩) hbl).trans c9
      have k10 := (hX.cell (p := ⟨blk, off + 10, none⟩) hbl).trans c10
      clear hk hc0 c9 c10 hK
      have hi2 : IntKind.i64.wrap ((11 : Int) - 2) = 9 := by decide
      have hi1 : IntKind.i64.wrap ((11 : Int) - 1) = 10 := by decide
      go_upto_region 5 with fail
      go_quiet (fail)
      have hdn : Below wr.heap.size wr (wr.drewN nq) := bdn _ nq
      go_wp2_with (first
        | (go_at_call 19; refine (hC.out _ (by (repeat (first | (with_reducible exact Below.refl _ _) | (with_reducible assumption) | (with_reducible apply bd) | (with_reducible apply ba) | (with_reducible refine bp ?_ (by first | omega | (simp [pad_size]; done) | (simp [pad_size]; omega)) _ _) | (with_reducible refine bs ?_ (by first | omega | (simp [pad_size]; done) | (simp [pad_size]; omega)) _) | (with_reducible refine bt ?_ (by assumption)))))).mono ?_; clear hC; rintro e w2 ⟨a1, c1, rfl, u1, hb2⟩; have hb2 : Below wr.heap.size wr w2 := bt (by (repeat (first | (with_reducible exact Below.refl _ _) | (with_reducible assumption) | (with_reducible apply bd) | (with_reducible apply ba) | (with_reducible refine bp ?_ (by first | omega | (simp [pad_size]; done) | (simp [pad_size]; omega)) _ _) | (with_reducible refine bs ?_ (by first | omega | (simp [pad_size]; done) | (simp [pad_size]; omega)) _) | (with_reducible refine bt ?_ (by assumption))))) hb2; have hB2 := bt hB1 (bt hX hb2))
        | (at_builtin; refine dx_app (W := w1) (M := M) ⟨⟨ow, va, s0, s1, s2, s3, ix⟩, a1, c1⟩ (own_below hM.out.row (bt hb2 (by (repeat (first | (with_reducible exact Below.refl _ _) | (with_reducible assumption) | (with_reducible apply bd) | (with_reducible apply ba) | (with_reducible refine bp ?_ (by first | omega | (simp [pad_size]; done) | (simp [pad_size]; omega)) _ _) | (with_reducible refine bs ?_ (by first | omega | (simp [pad_size]; done) | (simp [pad_size]; omega)) _) | (with_reducible refine bt ?_ (by assumption))))))) (bt (bt hX hb2) (by (repeat (first | (with_reducible exact Below.refl _ _) | (with_reducible assumption) | (with_reducible apply bd) | (with_reducible apply ba) | (with_reducible refine bp ?_ (by first | omega | (simp [pad_size]; done) | (simp [pad_size]; omega)) _ _) | (with_reducible refine bs ?_ (by first | omega | (simp [pad_size]; done) | (simp [pad_size]; omega)) _) | (with_reducible refine bt ?_ (by assumption)))))) (by omega) rfl _ _ rfl rfl rfl (al_at (by simp)) ?_; intro v' w3 hr3 hb3 hg3))
      all_goals go_roundw
      case rel => exact ⟨j + 1, _, by omega, by go_num, by rw [htk.out]; exact (hM.out.below (bt hb2 (by (repeat (first | (with_reducible exact Below.refl _ _) | (with_reducible assumption) | (with_reducible apply bd) | (with_reducible apply ba) | (with_reducible refine bp ?_ (by first | omega | (simp [pad_size]; done) | (simp [pad_size]; omega)) _ _) | (with_reducible refine bs ?_ (by first | omega | (simp [pad_size]; done) | (simp [pad_size]; omega)) _) | (with_reducible refine bt ?_ (by assumption))))))).snoc hg3 hr3 (DxOw.below (row_base u1 hX.size) (by (repeat (first | (with_reducible exact Below.refl _ _) | (with_reducible assumption) | (with_reducible apply bd) | (with_reducible apply ba) | (with_reducible refine bp ?_ (by first | omega | (simp [pad_size]; done) | (simp [pad_size]; omega)) _ _) | (with_reducible refine bs ?_ (by first | omega | (simp [pad_size]; done) | (simp [pad_size]; omega)) _) | (with_reducible refine bt ?_ (by assumption)))))), hb3⟩
      case measure => (simp [intOf] <;> omega)
    · obtain rfl : j = T.length := by omega
      rw [List.take_length] at hM
      have hM : Hid (DRow _ _ _ _ _) := hM
      go_wp2
      go_ret
      exact ⟨_, M, rfl, hM.out.down hB1.size, bt hB1 hX⟩
theorem byte_hasP : Byte hasP := by unfold Byte hasP; decide
set_option maxHeartbeats 2000000 in
theorem all11_any (h : StD W s base A L ds n) (hP : PoL L V D) (hn : n ≤ 1000) (hL : L.length ≤ 1000) :
    Calls Try.prog 23 #[.pointer (some ⟨s, 0, none⟩)] W fun e w' => ∃ v M, e = .returned v ∧ DRow w' W.heap.size v D M ∧ Below W.heap.size W w' := by
  have hT : Hid (∀ (X : World) (u : Value), Below W.heap.size W X → Src X u hasP → Calls Try.prog 27 #[.pointer (some ⟨s, 0, none⟩), u] X fun e w' => ∃ v M, e = .returned v ∧ DRow w' X.heap.size v D M ∧ Below X.heap.size X w') := fun X u hX hu => told_any (h.below hX) hP hn hu byte_hasP (by simp [hasP]) hP.keys (fun d hd => hd) (by have := hP.dlen; omega)
  clear h hP
  go_enter Try.func23, Try.ntmps23
  go_wp2_with (first
    | (go_at_call 28; refine (of_none _).mono ?_; rintro e w1 ⟨cap, g, rfl, hsrc, hg1, hg2, hb1⟩)
    | (go_at_call 27; refine (hT.out w1 _ hb1 hsrc).mono ?_; rintro e w2 ⟨v, M, rfl, hM, hb2⟩))
  have hM : Hid (DRow _ _ _ _ _) := hM
  go_ret
  exact ⟨_, M, rfl, hM.out.down hb1.size, bt hb1 hb2⟩
set_option maxHeartbeats 2000000 in
theorem of_any11 {o : Nat} (ho : o ≤ 255) (h : StD W s base A L ds n) (hP : PoL L V D) (hn : n ≤ 1000) (hL : L.length ≤ 1000) :
    Calls Try.prog 13 #[.pointer (some ⟨s, 0, none⟩), .int .u8 o] W fun e w' => ∃ v M, e = .returned v ∧ DRow w' W.heap.size v (D.filter (fun d => decide (d.ow = o))) M ∧ Below W.heap.size W w' := by
  have hT : Hid (∀ (X : World) (u : Value), Below W.heap.size W X → Src X u (hasP ++ [(o : Int)]) → Calls Try.prog 27 #[.pointer (some ⟨s, 0, none⟩), u] X fun e w' => ∃ v M, e = .returned v ∧ DRow w' X.heap.size v (D.filter (fun d => decide (d.ow = o))) M ∧ Below X.heap.size X w') := fun X u hX hu => told_any (h.below hX) hP hn hu (byte_app byte_hasP (byte_one (by omega))) (by simp [hasP]) (hP.keys1 o) (fun d hd => (List.mem_filter.1 hd).1) (by have := hP.dlen; have := List.length_filter_le (fun d : Dg => decide (d.ow = o)) D; omega)
  generalize D.filter (fun d => decide (d.ow = o)) = T at *
  clear h hP
  go_enter Try.func13, Try.ntmps13
  go_wp2_with (first
    | (go_at_call 28; refine (of1 (a := o) (al_at rfl)).mono ?_; rintro e w1 ⟨cap, g, rfl, hsrc, hg1, hg2, hb1⟩; have hB1 : Below W.heap.size W w1 := bt (by (repeat (first | (with_reducible exact Below.refl _ _) | (with_reducible assumption) | (with_reducible apply bd) | (with_reducible apply ba) | (with_reducible refine bp ?_ (by first | omega | (simp [pad_size]; done) | (simp [pad_size]; omega)) _ _) | (with_reducible refine bs ?_ (by first | omega | (simp [pad_size]; done) | (simp [pad_size]; omega)) _) | (with_reducible refine bt ?_ (by assumption))))) hb1)
    | (go_at_call 27; refine (hT.out w1 _ hB1 hsrc).mono ?_; rintro e w2 ⟨v, M, rfl, hM, hb2⟩))
  have hM : Hid (DRow _ _ _ _ _) := hM
  go_ret
  exact ⟨_, M, rfl, hM.out.down hB1.size, bt hB1 hb2⟩
end
end Go.Proofs.Ytafcianpajheiaa

/- pool: the reference's state; one more validator. -/
namespace Go.Proofs.Ytafcianpajheiaa
open Go.RowKit

/-- A list of coins that lies below. -/
def Lo (lo : Nat) (u : Value) (l : List Cn) : Prop := l = [] ∨ ∀ g, u.ownBlock = some g → g < lo
theorem isC_keep {W W' : World} {v : Value} {l : List Cn} (h : IsCoins W v l) (e : ∀ g, v.ownBlock = some g → W'.heap[g]? = W.heap[g]?) (hs : W.heap.size ≤ W'.heap.size) : IsCoins W' v l := by
  rcases h with h | ⟨blk, off, cap, hv, hne, hlen, hlt, hall⟩
  · exact .inl h
  · have hb := e blk (by rw [hv]; rfl)
    refine .inr ⟨blk, off, cap, hv, hne, hlen, Nat.lt_of_lt_of_le hlt hs, fun i x hi => ?_⟩
    obtain ⟨h0, h1, h2, h3, h4⟩ := hall i x hi
    exact ⟨(World.cell?_of_block (a := ⟨blk, _, none⟩) hb).trans h0, (World.cell?_of_block (a := ⟨blk, _, none⟩) hb).trans h1, (World.cell?_of_block (a := ⟨blk, _, none⟩) hb).trans h2, (World.cell?_of_block (a := ⟨blk, _, none⟩) hb).trans h3, (World.cell?_of_block (a := ⟨blk, _, none⟩) hb).trans h4⟩
theorem lo_keep {X Y : World} {lo : Nat} {u : Value} {l : List Cn} (h : IsCoins X u l) (hl : Lo lo u l) (e : ∀ k, k < lo → Y.heap[k]? = X.heap[k]?) (hs : X.heap.size ≤ Y.heap.size) : IsCoins Y u l := by
  rcases hl with rfl | hl
  · rcases h with h | ⟨_, _, _, _, hne, _⟩
    · exact .inl h
    · exact absurd rfl hne
  · exact isC_keep h (fun g hg => e g (hl g hg)) hs
structure VxLo (X : World) (lo : Nat) (y : Vx) : Prop where
  c1 : IsCoins X (.slice y.a1 y.x.ix.length y.c1) y.x.ix
  c2 : IsCoins X (.slice y.a2 y.x.er.length y.c2) y.x.er
  l1 : Lo lo (.slice y.a1 y.x.ix.length y.c1) y.x.ix
  l2 : Lo lo (.slice y.a2 y.x.er.length y.c2) y.x.er
structure DxLo (X : World) (lo : Nat) (y : Dx) : Prop where
  c1 : IsCoins X (.slice y.a1 y.d.ix.length y.c1) y.d.ix
  l1 : Lo lo (.slice y.a1 y.d.ix.length y.c1) y.d.ix
theorem VxLo.keep {X Y : World} {lo : Nat} {y : Vx} (h : VxLo X lo y) (e : ∀ k, k < lo → Y.heap[k]? = X.heap[k]?) (hs : X.heap.size ≤ Y.heap.size) : VxLo Y lo y := ⟨lo_keep h.c1 h.l1 e hs, lo_keep h.c2 h.l2 e hs, h.l1, h.l2⟩
theorem DxLo.keep {X Y : World} {lo : Nat} {y : Dx} (h : DxLo X lo y) (e : ∀ k, k < lo → Y.heap[k]? = X.heap[k]?) (hs : X.heap.size ≤ Y.heap.size) : DxLo Y lo y := ⟨lo_keep h.c1 h.l1 e hs, h.l1⟩
/-- The reference's state in block m: its validators and delegations; their coins lie below lo. -/
structure RSt (X : World) (m lo base : Nat) (B : Nat → Prop) (c0 c1 c2 c3 c6 c7 vv vd : Value) (M : List Vx) (N : List Dx) : Prop where
  blk : X.heap[m]? = some (.cells #[c0, c1, c2, c3, vv, vd, c6, c7] 37 (0, 0))
  bm : B m
  rowV : X.ownsRow base 43 14 vv M.length (M.flatMap vxC)
  rowD : X.ownsRow base 45 7 vd N.length (N.flatMap dxC)
  ids : M.map (·.i) = List.range M.length
  bv : ∀ g, vv.ownBlock = some g → B g ∧ g ≠ m
  bd : ∀ g, vd.ownBlock = some g → B g ∧ g ≠ m
  cv : ∀ y ∈ M, VxLo X lo y
  cd : ∀ y ∈ N, DxLo X lo y
  foot : ∀ k, B k → base ≤ k ∧ k < X.heap.size
  le : lo ≤ base
section
variable {X : World} {m lo base : Nat} {B : Nat → Prop} {c0 c1 c2 c3 c6 c7 vv vd : Value} {M : List Vx} {N : List Dx}
theorem own_keep {X Y : World} {base n k : Nat} {e : TypeId} {v : Value} {xs : List Value} (h : X.ownsRow base e k v n xs) (he : ∀ g, v.ownBlock = some g → Y.heap[g]? = X.heap[g]?) : Y.ownsRow base e k v n xs := by
  refine ⟨h.1, ?_⟩
  rcases h.2 with h2 | ⟨g, cap, cur, rfl, hg, hb, r⟩
  · exact .inl h2
  · exact .inr ⟨g, cap, cur, rfl, hg, (he g rfl).trans hb, r⟩
theorem RSt.kept (h : RSt X m lo base B c0 c1 c2 c3 c6 c7 vv vd M N) {Y : World} (e : ∀ k, B k → Y.heap[k]? = X.heap[k]?) (e2 : ∀ k, k < lo → Y.heap[k]? = X.heap[k]?) (hs : X.heap.size ≤ Y.heap.size) : RSt Y m lo base B c0 c1 c2 c3 c6 c7 vv vd M N :=
  ⟨(e m h.bm).trans h.blk, h.bm, own_keep h.rowV (fun g hg => e g (h.bv g hg).1), own_keep h.rowD (fun g hg => e g (h.bd g hg).1), h.ids, h.bv, h.bd, fun y hy => (h.cv y hy).keep e2 hs, fun y hy => (h.cd y hy).keep e2 hs, fun k hk => ⟨(h.foot k hk).1, Nat.lt_of_lt_of_le (h.foot k hk).2 hs⟩, h.le⟩
theorem RSt.lt (h : RSt X m lo base B c0 c1 c2 c3 c6 c7 vv vd M N) : m < X.heap.size := (h.foot m h.bm).2
theorem RSt.los (h : RSt X m lo base B c0 c1 c2 c3 c6 c7 vv vd M N) : lo ≤ X.heap.size := by have := h.foot m h.bm; have := h.le; omega
theorem RSt.below (h : RSt X m lo base B c0 c1 c2 c3 c6 c7 vv vd M N) {Y : World} (hb : Below X.heap.size X Y) : RSt Y m lo base B c0 c1 c2 c3 c6 c7 vv vd M N := h.kept (fun k hk => hb.block k (h.foot k hk).2) (fun k hk => hb.block k (by have := h.los; omega)) hb.size
/-- A cell of a block is turned; a new row is there. -/
theorem turn_fr {X Y : World} {m lo base i : Nat} {B : Nat → Prop} {v' : Value} (hm : B m) (hmb : ∀ k, B k → base ≤ k ∧ k < X.heap.size) (hle : lo ≤ base) (hY : Below X.heap.size X Y) (hv : ∀ g, v'.ownBlock = some g → X.heap.size ≤ g ∧ g < Y.heap.size) :
    Fr X (Y.setCell ⟨m, i, none⟩ v') B (fun k => B k ∨ v'.ownBlock = some k) ∧ (∀ k, k < lo → (Y.setCell ⟨m, i, none⟩ v').heap[k]? = X.heap[k]?) ∧ (∀ k, k ≠ m → (Y.setCell ⟨m, i, none⟩ v').heap[k]? = Y.heap[k]?) ∧ (Y.setCell ⟨m, i, none⟩ v').heap.size = Y.heap.size ∧ ∀ k, (B k ∨ v'.ownBlock = some k) → base ≤ k ∧ k < (Y.setCell ⟨m, i, none⟩ v').heap.size := by
  have eo : ∀ k, k ≠ m → (Y.setCell ⟨m, i, none⟩ v').heap[k]? = Y.heap[k]? := fun k hk => Below.heap_setCell Y ⟨m, i, none⟩ v' k hk
  have es : (Y.setCell ⟨m, i, none⟩ v').heap.size = Y.heap.size := by simp [World.setCell]
  have hm' := hmb m hm
  refine ⟨⟨hY.os, hY.tape, hY.output, by rw [es]; exact hY.size, fun k hk hB => (eo k (fun e => hB (e ▸ hm))).trans (hY.block k hk), fun k hk => ?_, fun k hk => .inl hk⟩, fun k hk => (eo k (by omega)).trans (hY.block k (by omega)), eo, es, fun k hk => ?_⟩
  · rcases hk with hk | hk
    · exact .inl hk
    · exact .inr (hv k hk).1
  · rw [es]
    have := hY.size
    rcases hk with hk | hk
    · have := hmb k hk; omega
    · have := hv k hk; omega
theorem RSt.setV (h : RSt X m lo base B c0 c1 c2 c3 c6 c7 vv vd M N) {Y : World} (hY : Below X.heap.size X Y) {v' : Value} {M' : List Vx} (hr : Y.ownsRow X.heap.size 43 14 v' M'.length (M'.flatMap vxC)) (hi : M'.map (·.i) = List.range M'.length) (hc : ∀ y ∈ M', VxLo X lo y) :
    ∃ B', RSt (Y.setCell ⟨m, 4, none⟩ v') m lo base B' c0 c1 c2 c3 c6 c7 v' vd M' N ∧ Fr X (Y.setCell ⟨m, 4, none⟩ v') B B' := by
  obtain ⟨f1, f2, f3, f4, f5⟩ := turn_fr (i := 4) (v' := v') h.bm h.foot h.le hY (fun g hg => hr.lt g hg)
  have hm := h.lt
  have hs : X.heap.size ≤ (Y.setCell ⟨m, 4, none⟩ v').heap.size := by rw [f4]; exact hY.size
  refine ⟨_, ⟨?_, .inl h.bm, row_base (own_keep hr (fun g hg => f3 g (by have := hr.lt g hg; omega))) (by have := h.foot m h.bm; omega), own_keep h.rowD (fun g hg => (f3 g (h.bd g hg).2).trans (hY.block g (h.foot g (h.bd g hg).1).2)), hi, fun g hg => ⟨.inr hg, by have := hr.lt g hg; omega⟩, fun g hg => ⟨.inl (h.bd g hg).1, (h.bd g hg).2⟩, fun y hy => (hc y hy).keep f2 hs, fun y hy => (h.cd y hy).keep f2 hs, f5, h.le⟩, f1⟩
  exact (block_set (i := 4) v' ((hY.block m hm).trans h.blk)).trans (by simp)
theorem RSt.setDl (h : RSt X m lo base B c0 c1 c2 c3 c6 c7 vv vd M N) {Y : World} (hY : Below X.heap.size X Y) {v' : Value} {N' : List Dx} (hr : Y.ownsRow X.heap.size 45 7 v' N'.length (N'.flatMap dxC)) (hc : ∀ y ∈ N', DxLo X lo y) :
    ∃ B', RSt (Y.setCell ⟨m, 5, none⟩ v') m lo base B' c0 c1 c2 c3 c6 c7 vv v' M N' ∧ Fr X (Y.setCell ⟨m, 5, none⟩ v') B B' := by
  obtain ⟨f1, f2, f3, f4, f5⟩ := turn_fr (i := 5) (v' := v') h.bm h.foot h.le hY (fun g hg => hr.lt g hg)
  have hm := h.lt
  have hs : X.heap.size ≤ (Y.setCell ⟨m, 5, none⟩ v').heap.size := by rw [f4]; exact hY.size
  refine ⟨_, ⟨?_, .inl h.bm, own_keep h.rowV (fun g hg => (f3 g (h.bv g hg).2).trans (hY.block g (h.foot g (h.bv g hg).1).2)), row_base (own_keep hr (fun g hg => f3 g (by have := hr.lt g hg; omega))) (by have := h.foot m h.bm; omega), h.ids, fun g hg => ⟨.inl (h.bv g hg).1, (h.bv g hg).2⟩, fun g hg => ⟨.inr hg, by have := hr.lt g hg; omega⟩, fun y hy => (h.cv y hy).keep f2 hs, fun y hy => (hc y hy).keep f2 hs, f5, h.le⟩, f1⟩
  exact (block_set (i := 5) v' ((hY.block m hm).trans h.blk)).trans (by simp)
/-- append(nil, row..). -/
theorem vx_copy {W X : World} {b : Nat} {u : Value} (hr : X.ownsRow b 43 14 u M.length (M.flatMap vxC)) (hb : Below W.heap.size W X) (hl : M.length ≤ 1000) {ops : Array Oper} {rest : List Oper} {o : Oper} {a : Act} {Q : Exit → Act → World → Prop} (hgd : o.guard = none) (s x : Operand)
    (ho : o.op = .call { callee := .builtin .append, args := #[s, x], argTypes := #[32, 32] }) (hs : a.eval s = .slice none 0 0) (hx : a.eval x = u)
    (k : ∀ v' w', w'.ownsRow W.heap.size 43 14 v' M.length (M.flatMap vxC) → X.grownBy w' none → wpList Try.prog ops Q rest (a.put o.dst v') w') : wpList Try.prog ops Q (o :: rest) a X := by
  obtain ⟨i0, hi, hz0, hz1, hz2⟩ := info_parts val_info
  refine wpList_plain hgd fun _ hK => ?_
  rcases hr.2 with ⟨rfl, h0⟩ | ⟨g, cap, cur, rfl, h1, h2, h3⟩
  · have hap : (Builtin.append_ #[32, 32] o.type #[.slice none 0 0, .slice none 0 0]).run Try.prog X = .ok (.slice none 0 0) X := by
      simp [Builtin.append_, run_underlying Try.underlying32, sizeOf, typeInfo, hi, hz1, Builtin.lenOf, Builtin.firstCells, storeCells]
    unfold Oper.wp execOp
    simp only [ho, resolve, invoke, builtin, Sem.run_bind, Sem.run_pure, Result.andThen_ok, List.map_toArray, List.map_cons, List.map_nil, hs, hx, hap]
    have hM : M = [] := List.eq_nil_of_length_eq_zero h0
    exact hK _ _ (k _ _ (by rw [hM]; exact World.ownsRow_nil _ _ _ _) (grown_ref _ _))
  · refine wp_append_own_at X s x 32 ho W.heap.size 43 i0 _ 14 120 Try.underlying32 hi hz0 hz1 hz2 rfl (by decide) (.slice none 0 0) 0 [] hs (World.ownsRow_nil _ _ _ _) ⟨g, 0, none⟩ M.length cap (M.flatMap vxC) hx (flat_len vxC_len M) (fun j u hj => hr.cells (g := g) rfl j u hj) (fun u hu => by obtain ⟨y, hy, hu⟩ := List.mem_flatMap.1 hu; exact vxC_one y u hu) (by unfold maxLen; omega) (by omega) hb.size ?_
    intro u' w' hown hg _ hat
    refine hK _ _ (k u' w' (by simpa using hown) hg)
def newX (k : Nat) (ow rt : Int) : Vx := ⟨k, newV ow rt, none, 0, none, 0⟩
set_option maxHeartbeats 8000000 in
theorem add11_bad (h : RSt X m lo base B c0 c1 c2 c3 c6 c7 vv vd M N) {ow rt : Int} (hl : M.length ≤ 16) (hm : mayB ow rt [] [] = false) :
    Calls Try.prog 24 #[.pointer (some ⟨m, 0, none⟩), .int .u8 ow, .int .u16 rt] X fun e w' => e = .returned (.tuple #[.int .u8 0, .int .i64 1]) ∧ Below X.heap.size X w' := by
  have hM := fun Y => right11_any (W := Y) (id := (M.length : Int)) (ow := ow) (rt := rt) (jl := false) (t0 := 0) (t1 := 0) (t2 := 0) (t3 := 0) (s0 := 0) (s1 := 0) (s2 := 0) (s3 := 0) (isCL_nil Y 0) (isCL_nil Y 0) (by simp) (by simp)
  rw [hm] at hM
  obtain ⟨av, cv, rfl⟩ := row_slice h.rowV
  obtain ⟨e0, f0⟩ := cells_of_block h.blk
  have hlt := h.lt
  have hw8 : IntKind.u8.wrap (M.length : Int) = (M.length : Int) := by rw [IntKind.wrap_u8]; omega
  clear h
  go_enter Try.func24, Try.ntmps24
  go_wp2_with (go_at_call 46; refine (hM _).mono ?_; rintro e w1 ⟨rfl, hb1⟩)
  go_ret2
  exact ⟨rfl, bt (by (repeat (first | (with_reducible exact Below.refl _ _) | (with_reducible assumption) | (with_reducible apply bd) | (with_reducible apply ba) | (with_reducible refine bp ?_ (by first | omega | (simp [pad_size]; done) | (simp [pad_size]; omega)) _ _) | (with_reducible refine bs ?_ (by first | omega | (simp [pad_size]; done) | (simp [pad_size]; omega)) _) | (with_reducible refine bt ?_ (by assumption))))) hb1⟩
set_option maxRecDepth 20000 in
set_option maxHeartbeats 8000000 in
theorem add11_any (h : RSt X m lo base B c0 c1 c2 c3 c6 c7 vv vd M N) {ow rt : Int} (hl : M.length ≤ 16) (hm : mayB ow rt [] [] = true) :
    Calls Try.prog 24 #[.pointer (some ⟨m, 0, none⟩), .int .u8 ow, .int .u16 rt] X fun e w' => (M.length < 16 ∧ e = .returned (.tuple #[.int .u8 (M.length : Nat), .int .i64 0]) ∧ ∃ B' vv', RSt w' m lo base B' c0 c1 c2 c3 c6 c7 vv' vd (M ++ [(newX M.length ow rt)]) N ∧ Fr X w' B B') ∨ (M.length = 16 ∧ e = .returned (.tuple #[.int .u8 0, .int .i64 7]) ∧ Below X.heap.size X w') := by
  have hM := fun Y => right11_any (W := Y) (id := (M.length : Int)) (ow := ow) (rt := rt) (jl := false) (t0 := 0) (t1 := 0) (t2 := 0) (t3 := 0) (s0 := 0) (s1 := 0) (s2 := 0) (s3 := 0) (isCL_nil Y 0) (isCL_nil Y 0) (by simp) (by simp)
  rw [hm] at hM
  have hend : Hid (∀ (Y : World) (v' : Value), Below X.heap.size X Y → Y.ownsRow X.heap.size 43 14 v' (M ++ [(newX M.length ow rt)]).length ((M ++ [(newX M.length ow rt)]).flatMap vxC) → ∃ B' vv', RSt (Y.setCell ⟨m, 4, none⟩ v') m lo base B' c0 c1 c2 c3 c6 c7 vv' vd (M ++ [(newX M.length ow rt)]) N ∧ Fr X (Y.setCell ⟨m, 4, none⟩ v') B B') := fun Y v' hY hr => by
    obtain ⟨B', q1, q2⟩ := h.setV hY hr (by rw [List.map_append, h.ids, List.length_append]; simp [List.range_succ, newX]) (fun y hy => by
      rcases List.mem_append.1 hy with hy | hy
      · exact h.cv y hy
      · rw [List.mem_singleton] at hy; subst hy; exact ⟨isC_nil _ _, isC_nil _ _, .inl rfl, .inl rfl⟩)
    exact ⟨B', v', q1, q2⟩
  have hrow : Hid (∀ Y, Below X.heap.size X Y → Y.ownsRow base 43 14 vv M.length (M.flatMap vxC)) := fun Y hY => own_below h.rowV hY
  have hblk : Hid (∀ Y, Below X.heap.size X Y → Y.heap[m]? = some (.cells #[c0, c1, c2, c3, vv, vd, c6, c7] 37 (0, 0))) := fun Y hY => (hY.block m h.lt).trans h.blk
  obtain ⟨av, cv, rfl⟩ := row_slice h.rowV
  obtain ⟨e0, f0⟩ := cells_of_block h.blk
  have hlt := h.lt
  have hw8 : IntKind.u8.wrap (M.length : Int) = (M.length : Int) := by rw [IntKind.wrap_u8]; omega
  clear h
  have hne : ¬ X.heap.size = m := by omega
  by_cases h16 : M.length < 16
  · have h16' : ¬ (16 : Int) ≤ (M.length : Int) := by omega
    go_enter Try.func24, Try.ntmps24
    go_wp2_with (first
      | (go_at_call 46; refine (hM _).mono ?_; rintro e w1 ⟨rfl, hb1⟩; have hB1 : Below X.heap.size X w1 := bt (by (repeat (first | (with_reducible exact Below.refl _ _) | (with_reducible assumption) | (with_reducible apply bd) | (with_reducible apply ba) | (with_reducible refine bp ?_ (by first | omega | (simp [pad_size]; done) | (simp [pad_size]; omega)) _ _) | (with_reducible refine bs ?_ (by first | omega | (simp [pad_size]; done) | (simp [pad_size]; omega)) _) | (with_reducible refine bt ?_ (by assumption))))) hb1; obtain ⟨e1, f1⟩ := cells_of_block (hblk.out w1 hB1); have q1 := (hb1.block X.heap.size (by simp)).trans (al_at rfl); obtain ⟨g1, k1⟩ := cells_of_block q1)
      | (at_builtin; refine vx_copy (W := w1) (M := M) (hrow.out _ hB1) (Below.refl _ _) (by omega) rfl _ _ rfl rfl rfl ?_; intro v2 w2 hr2 hg2; have hb2 : Below w1.heap.size w1 w2 := (Below.refl _ w1).grown hg2 (Nat.le_refl _) (fun _ h => by cases h); obtain ⟨a2, k2, rfl⟩ := row_slice hr2; have q2 := (hb2.block X.heap.size (Array.getElem?_eq_some_iff.1 q1).1).trans q1; obtain ⟨g2, y2⟩ := cells_of_block q2)
      | (at_builtin; refine vx_app (W := w1) (M := M) (newX M.length ow rt) (own_below hr2 (by (repeat (first | (with_reducible exact Below.refl _ _) | (with_reducible assumption) | (with_reducible apply bd) | (with_reducible apply ba) | (with_reducible refine bp ?_ (by first | omega | (simp [pad_size]; done) | (simp [pad_size]; omega)) _ _) | (with_reducible refine bs ?_ (by first | omega | (simp [pad_size]; done) | (simp [pad_size]; omega)) _) | (with_reducible refine bt ?_ (by assumption)))))) (bt hb2 (by (repeat (first | (with_reducible exact Below.refl _ _) | (with_reducible assumption) | (with_reducible apply bd) | (with_reducible apply ba) | (with_reducible refine bp ?_ (by first | omega | (simp [pad_size]; done) | (simp [pad_size]; omega)) _ _) | (with_reducible refine bs ?_ (by first | omega | (simp [pad_size]; done) | (simp [pad_size]; omega)) _) | (with_reducible refine bt ?_ (by assumption)))))) (by omega) rfl _ _ rfl rfl rfl (al_at rfl) ?_; intro v3 w3 hr3 hb3 hg3; have hB3 := bt hB1 hb3; obtain ⟨e3, f3⟩ := cells_of_block (hblk.out w3 hB3); have q3 := (hb3.block X.heap.size (Array.getElem?_eq_some_iff.1 q1).1).trans q1; obtain ⟨g3, y3⟩ := cells_of_block q3; obtain ⟨a3, k3, rfl⟩ := row_slice hr3))
    go_ret2
    obtain ⟨B', vv', p1, p2⟩ := hend.out w3 _ hB3 (row_base hr3 hB1.size)
    rw [List.length_append] at p1 p2
    exact .inl ⟨h16, rfl, B', vv', p1, p2⟩
  · obtain h16' : M.length = 16 := by omega
    rw [h16'] at hM hw8 e0 hblk
    go_enter Try.func24, Try.ntmps24
    go_wp2_with (go_at_call 46; refine (hM _).mono ?_; rintro e w1 ⟨rfl, hb1⟩; have hB1 : Below X.heap.size X w1 := bt (by (repeat (first | (with_reducible exact Below.refl _ _) | (with_reducible assumption) | (with_reducible apply bd) | (with_reducible apply ba) | (with_reducible refine bp ?_ (by first | omega | (simp [pad_size]; done) | (simp [pad_size]; omega)) _ _) | (with_reducible refine bs ?_ (by first | omega | (simp [pad_size]; done) | (simp [pad_size]; omega)) _) | (with_reducible refine bt ?_ (by assumption))))) hb1; obtain ⟨e1, f1⟩ := cells_of_block (hblk.out w1 hB1))
    go_ret2
    exact .inr ⟨h16', rfl, hB1⟩
end
end Go.Proofs.Ytafcianpajheiaa
