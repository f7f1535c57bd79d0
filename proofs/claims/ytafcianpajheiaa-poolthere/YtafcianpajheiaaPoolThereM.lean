
/- For every validator and every delegation jointurelaw11.PoolThere returns true and writes nothing that was there: a validator that may be is told as it came; so is a delegation. No condition. -/
import Derived.Test.YtafcianpajheiaaPQ7
set_option linter.unusedSimpArgs false
set_option linter.unusedVariables false
set_option maxRecDepth 20000
namespace Go.Proofs.Ytafcianpajheiaa
open Go.ChangeShapes Go.WideShapes Go.ChangeAt Go.RowKit

/-- A block that isn't a store's stays as it is. -/
theorem fr_blk {X Y : World} {A A' : Nat → Prop} (f : Fr X Y A A') {base k : Nat} (hA : ∀ k, A k → base ≤ k ∧ k < X.heap.size) (hk : k < base) {o : Obj} (h : X.heap[k]? = some o) : Y.heap[k]? = some o := (f.block k (Array.getElem?_eq_some_iff.1 h).1 (fun e => by have := (hA k e).1; omega)).trans h
section
variable {w : World} {i do' va : Nat} {ow rt t0 t1 t2 t3 s0 s1 s2 s3 r0 r1 r2 r3 : Int} {jl : Bool} {ix er jx : List Cn} {a1 a2 a3 : Option Addr} {n1 c1 n2 c2 n3 c3 : Nat}
set_option maxHeartbeats 4000000 in
theorem there_many (h3 : 30 < sum3 n1 n2 n3) :
    Calls Try.prog 5 #[.agg #[.int .u8 (i : Nat), .int .u8 ow, .int .u16 rt, .bool jl, .int .u64 t0, .int .u64 t1, .int .u64 t2, .int .u64 t3, .int .u64 s0, .int .u64 s1, .int .u64 s2, .int .u64 s3, .slice a1 n1 c1, .slice a2 n2 c2], .agg #[.int .u8 (do' : Nat), .int .u8 (va : Nat), .int .u64 r0, .int .u64 r1, .int .u64 r2, .int .u64 r3, .slice a3 n3 c3]] w fun e w' => e = .returned (.bool true) ∧ Below w.heap.size w w' := by
  unfold sum3 at h3
  have hA : (((w.alloc (.cells #[.int .u8 (i : Nat), .int .u8 ow, .int .u16 rt, .bool jl, .int .u64 t0, .int .u64 t1, .int .u64 t2, .int .u64 t3, .int .u64 s0, .int .u64 s1, .int .u64 s2, .int .u64 s3, .slice a1 n1 c1, .slice a2 n2 c2] 43)).alloc (.cells #[.int .u8 (do' : Nat), .int .u8 (va : Nat), .int .u64 r0, .int .u64 r1, .int .u64 r2, .int .u64 r3, .slice a3 n3 c3] 45))).heap[w.heap.size]? = some (.cells #[.int .u8 (i : Nat), .int .u8 ow, .int .u16 rt, .bool jl, .int .u64 t0, .int .u64 t1, .int .u64 t2, .int .u64 t3, .int .u64 s0, .int .u64 s1, .int .u64 s2, .int .u64 s3, .slice a1 n1 c1, .slice a2 n2 c2] 43 (0, 0)) := (al_old (by simp)).trans (al_at rfl)
  have hB : (((w.alloc (.cells #[.int .u8 (i : Nat), .int .u8 ow, .int .u16 rt, .bool jl, .int .u64 t0, .int .u64 t1, .int .u64 t2, .int .u64 t3, .int .u64 s0, .int .u64 s1, .int .u64 s2, .int .u64 s3, .slice a1 n1 c1, .slice a2 n2 c2] 43)).alloc (.cells #[.int .u8 (do' : Nat), .int .u8 (va : Nat), .int .u64 r0, .int .u64 r1, .int .u64 r2, .int .u64 r3, .slice a3 n3 c3] 45))).heap[w.heap.size + 1]? = some (.cells #[.int .u8 (do' : Nat), .int .u8 (va : Nat), .int .u64 r0, .int .u64 r1, .int .u64 r2, .int .u64 r3, .slice a3 n3 c3] 45 (0, 0)) := al_at (by simp)
  have hz : (((w.alloc (.cells #[.int .u8 (i : Nat), .int .u8 ow, .int .u16 rt, .bool jl, .int .u64 t0, .int .u64 t1, .int .u64 t2, .int .u64 t3, .int .u64 s0, .int .u64 s1, .int .u64 s2, .int .u64 s3, .slice a1 n1 c1, .slice a2 n2 c2] 43)).alloc (.cells #[.int .u8 (do' : Nat), .int .u8 (va : Nat), .int .u64 r0, .int .u64 r1, .int .u64 r2, .int .u64 r3, .slice a3 n3 c3] 45))).heap.size = w.heap.size + 1 + 1 := by simp
  go_enter Try.func5, Try.ntmps5
  go_upto_region 2 with (go_at_call 8; refine (adds_any _).mono ?_; rintro e w1 ⟨rfl, hb1⟩; have q1 := (hb1.block w.heap.size (by omega)).trans hA; have q2 := (hb1.block (w.heap.size + 1) (by omega)).trans hB; obtain ⟨e1, f1⟩ := cells_of_block q1; obtain ⟨e2, f2⟩ := cells_of_block q2; have hB1 : Below w.heap.size w w1 := bt (by (repeat (first | (with_reducible exact Below.refl _ _) | (with_reducible assumption) | (with_reducible apply bd) | (with_reducible apply ba) | (with_reducible refine bp ?_ (by first | omega | (simp [pad_size]; done) | (simp [pad_size]; omega)) _ _) | (with_reducible refine bs ?_ (by first | omega | (simp [pad_size]; done) | (simp [pad_size]; omega)) _) | (with_reducible refine bt ?_ (by assumption))))) hb1)
  go_wp2_with (go_at_call 8; refine (adds_any _).mono ?_; rintro e w3 ⟨rfl, hb3⟩)
  go_ret
  exact ⟨rfl, bt hB1 hb3⟩
set_option maxRecDepth 20000 in
set_option maxHeartbeats 16000000 in
theorem there_1ok (h3 : ¬ 30 < sum3 n1 n2 n3) (hi : i ≤ 255) (hx : VIn ⟨ow, rt, jl, t0, t1, t2, t3, s0, s1, s2, s3, ix, er⟩) (l1 : CoIn w a1 n1 c1 ix) (l2 : CoIn w a2 n2 c2 er) (hy : DIn ⟨do', 0, r0, r1, r2, r3, jx⟩) (l3 : CoIn w a3 n3 c3 jx) (hm : mayB ow rt ix er = true) (hg1 : do' < 200) (hg2 : rightFrom 0 jx = true) (hg3 : eq4 r0 r1 r2 r3 0 0 0 0 = false) :
    Calls Try.prog 5 #[.agg #[.int .u8 (i : Nat), .int .u8 ow, .int .u16 rt, .bool jl, .int .u64 t0, .int .u64 t1, .int .u64 t2, .int .u64 t3, .int .u64 s0, .int .u64 s1, .int .u64 s2, .int .u64 s3, .slice a1 n1 c1, .slice a2 n2 c2], .agg #[.int .u8 (do' : Nat), .int .u8 (va : Nat), .int .u64 r0, .int .u64 r1, .int .u64 r2, .int .u64 r3, .slice a3 n3 c3]] w fun e w' => e = .returned (.bool true) ∧ Below w.heap.size w w' := by
  unfold sum3 at h3
  have hw := hy.ow
  simp only at hw
  have hSV : Hid (∀ (s : Nat) (X : World) (A : Nat → Prop) (L : List (List Int × List Int)), Below w.heap.size w X → StD X s s A L [] 1 → PoL L [newV 5 0] [] → Calls Try.prog 16 #[.pointer (some ⟨s, 0, none⟩), .agg #[.int .u8 0, .int .u8 ow, .int .u16 rt, .bool jl, .int .u64 t0, .int .u64 t1, .int .u64 t2, .int .u64 t3, .int .u64 s0, .int .u64 s1, .int .u64 s2, .int .u64 s3, .slice a1 n1 c1, .slice a2 n2 c2]] X fun e w' => e = .returned (.int .i64 0) ∧ ∃ A' L', StD w' s s A' L' [] 2 ∧ PoL L' [⟨ow, rt, jl, t0, t1, t2, t3, s0, s1, s2, s3, ix, er⟩] [] ∧ Fr X w' A A') := fun s X A L hX hS hP => by
    obtain ⟨rfl, i1, -⟩ := co_small l1 hX (hx.ok hm).ir
    obtain ⟨rfl, i2, -⟩ := co_small l2 hX (hx.ok hm).er
    refine (setVal_any (i := 0) hS hP (by omega) (by omega) hx hm i1 i2).mono ?_
    rintro e w' (⟨-, rfl, A', L', q1, q2, -, q4⟩ | ⟨e1, -⟩)
    · exact ⟨rfl, A', L', q1, q2, q4⟩
    · simp at e1
  have hSD : Hid (∀ (s : Nat) (X : World) (A : Nat → Prop) (L : List (List Int × List Int)), Below w.heap.size w X → StD X s s A L [] 2 → PoL L [⟨ow, rt, jl, t0, t1, t2, t3, s0, s1, s2, s3, ix, er⟩] [] → Calls Try.prog 17 #[.pointer (some ⟨s, 0, none⟩), .agg #[.int .u8 (do' : Nat), .int .u8 0, .int .u64 r0, .int .u64 r1, .int .u64 r2, .int .u64 r3, .slice a3 n3 c3]] X fun e w' => e = .returned (.int .i64 0) ∧ ∃ A' L', StD w' s s A' L' [] 3 ∧ PoL L' [⟨ow, rt, jl, t0, t1, t2, t3, s0, s1, s2, s3, ix, er⟩] [⟨do', 0, r0, r1, r2, r3, jx⟩] ∧ Fr X w' A A') := fun s X A L hX hS hP => by
    obtain ⟨rfl, i1, -⟩ := co_small l3 hX hg2
    have e1 : setD [] ⟨do', 0, r0, r1, r2, r3, jx⟩ = [⟨do', 0, r0, r1, r2, r3, jx⟩] := by unfold setD; simp only [hg3]; rfl
    refine (setDg_any hS hP (by omega) hy hg1 hg2 i1).mono ?_
    rintro e w' (⟨-, rfl, A', L', q1, q2, -, q4⟩ | ⟨e2, -⟩)
    · exact ⟨rfl, A', L', q1, by rw [e1] at q2; exact q2, q4⟩
    · simp at e2
  obtain ⟨en1, i1, -⟩ := co_small l1 (Below.refl _ _) (hx.ok hm).ir
  obtain ⟨en2, i2, -⟩ := co_small l2 (Below.refl _ _) (hx.ok hm).er
  rw [← en1] at i1
  rw [← en2] at i2
  replace i1 : Hid (IsCoins w _ _) := i1
  replace i2 : Hid (IsCoins w _ _) := i2
  obtain ⟨en3, i3, -⟩ := co_small l3 (Below.refl _ _) hg2
  rw [← en3] at i3
  replace i3 : Hid (IsCoins w _ _) := i3
  have hZr := fun Y => zero11_any r0 r1 r2 r3 Y
  rw [hg3] at hZr
  have hVl : Hid (∀ (s : Nat) (X : World) (A : Nat → Prop) (L : List (List Int × List Int)), StD X s s A L [] 3 → PoL L [⟨ow, rt, jl, t0, t1, t2, t3, s0, s1, s2, s3, ix, er⟩] [⟨do', 0, r0, r1, r2, r3, jx⟩] → Calls Try.prog 18 #[.pointer (some ⟨s, 0, none⟩), .int .u8 0] X fun e w' => ∃ b1 d1 b2 d2, e = .returned (.tuple #[.agg #[.int .u8 0, .int .u8 ow, .int .u16 rt, .bool jl, .int .u64 t0, .int .u64 t1, .int .u64 t2, .int .u64 t3, .int .u64 s0, .int .u64 s1, .int .u64 s2, .int .u64 s3, .slice b1 n1 d1, .slice b2 n2 d2], .bool true]) ∧ IsCoins w' (.slice b1 n1 d1) ix ∧ IsCoins w' (.slice b2 n2 d2) er ∧ Below X.heap.size X w') := fun s X A L hS hP => by
    have hl := right_len (hP.vok _ (List.mem_singleton.2 rfl)).ir
    have hl2 := right_len (hP.vok _ (List.mem_singleton.2 rfl)).er
    simp only [newV] at hl hl2
    rw [en1, en2]
    refine (val_yes (i := 0) hS hP (by omega) rfl).mono ?_
    rintro e w' ⟨b1, d1, b2, d2, rfl, u1, u2, hb⟩
    exact ⟨b1, d1, b2, d2, rfl, own_coins u1 (by omega), own_coins u2 (by omega), hb⟩
  have hGt : Hid (∀ (s : Nat) (X : World) (A : Nat → Prop) (L : List (List Int × List Int)), StD X s s A L [] 3 → PoL L [⟨ow, rt, jl, t0, t1, t2, t3, s0, s1, s2, s3, ix, er⟩] [⟨do', 0, r0, r1, r2, r3, jx⟩] → Calls Try.prog 19 #[.pointer (some ⟨s, 0, none⟩), .int .u8 (do' : Nat), .int .u8 0] X fun e w' => ∃ e1 f1, e = .returned (.tuple #[.agg #[.int .u8 (do' : Nat), .int .u8 0, .int .u64 r0, .int .u64 r1, .int .u64 r2, .int .u64 r3, .slice e1 n3 f1], .bool true]) ∧ IsCoins w' (.slice e1 n3 f1) jx ∧ Below X.heap.size X w') := fun s X A L hS hP => by
    have hl := right_len (hP.dok _ (List.mem_singleton.2 rfl)).ir
    simp only at hl
    rw [en3]
    refine (getD_any (x := ⟨do', 0, r0, r1, r2, r3, jx⟩) hS hP (by omega) (List.mem_singleton.2 rfl)).mono ?_
    rintro e w' ⟨e1, f1, rfl, u1, hb⟩
    exact ⟨e1, f1, rfl, own_coins u1 (by omega), hb⟩
  have hm0 : mayB 5 0 [] [] = true := by decide
  have hA : (((w.alloc (.cells #[.int .u8 (i : Nat), .int .u8 ow, .int .u16 rt, .bool jl, .int .u64 t0, .int .u64 t1, .int .u64 t2, .int .u64 t3, .int .u64 s0, .int .u64 s1, .int .u64 s2, .int .u64 s3, .slice a1 n1 c1, .slice a2 n2 c2] 43)).alloc (.cells #[.int .u8 (do' : Nat), .int .u8 (va : Nat), .int .u64 r0, .int .u64 r1, .int .u64 r2, .int .u64 r3, .slice a3 n3 c3] 45))).heap[w.heap.size]? = some (.cells #[.int .u8 (i : Nat), .int .u8 ow, .int .u16 rt, .bool jl, .int .u64 t0, .int .u64 t1, .int .u64 t2, .int .u64 t3, .int .u64 s0, .int .u64 s1, .int .u64 s2, .int .u64 s3, .slice a1 n1 c1, .slice a2 n2 c2] 43 (0, 0)) := (al_old (by simp)).trans (al_at rfl)
  have hB : (((w.alloc (.cells #[.int .u8 (i : Nat), .int .u8 ow, .int .u16 rt, .bool jl, .int .u64 t0, .int .u64 t1, .int .u64 t2, .int .u64 t3, .int .u64 s0, .int .u64 s1, .int .u64 s2, .int .u64 s3, .slice a1 n1 c1, .slice a2 n2 c2] 43)).alloc (.cells #[.int .u8 (do' : Nat), .int .u8 (va : Nat), .int .u64 r0, .int .u64 r1, .int .u64 r2, .int .u64 r3, .slice a3 n3 c3] 45))).heap[w.heap.size + 1]? = some (.cells #[.int .u8 (do' : Nat), .int .u8 (va : Nat), .int .u64 r0, .int .u64 r1, .int .u64 r2, .int .u64 r3, .slice a3 n3 c3] 45 (0, 0)) := al_at (by simp)
  have hz : (((w.alloc (.cells #[.int .u8 (i : Nat), .int .u8 ow, .int .u16 rt, .bool jl, .int .u64 t0, .int .u64 t1, .int .u64 t2, .int .u64 t3, .int .u64 s0, .int .u64 s1, .int .u64 s2, .int .u64 s3, .slice a1 n1 c1, .slice a2 n2 c2] 43)).alloc (.cells #[.int .u8 (do' : Nat), .int .u8 (va : Nat), .int .u64 r0, .int .u64 r1, .int .u64 r2, .int .u64 r3, .slice a3 n3 c3] 45))).heap.size = w.heap.size + 1 + 1 := by simp
  have hw8 : IntKind.u8.wrap (0 : Int) = 0 := by decide
  clear hx hy l1 l2 l3 hm hg1 hg2 hg3 hi hw en1 en2 en3
  go_enter Try.func5, Try.ntmps5
  go_upto_region 6 with (first
    | (go_at_call 8; refine (adds_any _).mono ?_; rintro e w1 ⟨rfl, hb1⟩; have q1 := (hb1.block w.heap.size (by omega)).trans hA; have q2 := (hb1.block (w.heap.size + 1) (by omega)).trans hB; obtain ⟨e1, f1⟩ := cells_of_block q1; obtain ⟨e2, f2⟩ := cells_of_block q2; have hB1 : Below w.heap.size w w1 := bt (by (repeat (first | (with_reducible exact Below.refl _ _) | (with_reducible assumption) | (with_reducible apply bd) | (with_reducible apply ba) | (with_reducible refine bp ?_ (by first | omega | (simp [pad_size]; done) | (simp [pad_size]; omega)) _ _) | (with_reducible refine bs ?_ (by first | omega | (simp [pad_size]; done) | (simp [pad_size]; omega)) _) | (with_reducible refine bt ?_ (by assumption))))) hb1; have z1 : w.heap.size + 1 < w1.heap.size := (Array.getElem?_eq_some_iff.1 q2).1)
    | (go_at_call 10; refine (stdNew _).mono ?_; rintro e w2 ⟨rfl, h2, hb2⟩; have hB2 := bt hB1 hb2; have q12 := (hb2.block w.heap.size (by omega)).trans q1; have q22 := (hb2.block (w.heap.size + 1) z1).trans q2)
    | (go_at_call 15; (refine (add_any h2 PoL.new (by omega) (by omega) (by omega) hm0).mono ?_; (rintro e w3 (⟨-, rfl, A3, L3, h3', hP3, -, f3'⟩ | ⟨e1, -⟩); rotate_left; exact absurd e1 (by simp)); have q13 := fr_blk f3' h2.foot (by omega) q12; have q23 := fr_blk f3' h2.foot z1 q22; obtain ⟨e3, g3⟩ := cells_of_block q13; obtain ⟨e4, g4⟩ := cells_of_block q23; have hB3 := Fr.out hB2 f3' (fun k hk => by have := (h2.foot k hk).1; omega))))
  obtain ⟨X, hX⟩ : ∃ X, (w3.setCell ⟨w.heap.size, 0, none⟩ (.int .u8 0)).setCell ⟨w.heap.size + 1, 1, none⟩ (.int .u8 0) = X := ⟨_, rfl⟩
  have hBX : Below w.heap.size w X := by rw [← hX]; exact bs (bs hB3 (Nat.le_refl _) _) (Nat.le_succ _) _
  have p1 : X.heap[w.heap.size]? = some (.cells #[.int .u8 0, .int .u8 ow, .int .u16 rt, .bool jl, .int .u64 t0, .int .u64 t1, .int .u64 t2, .int .u64 t3, .int .u64 s0, .int .u64 s1, .int .u64 s2, .int .u64 s3, .slice a1 n1 c1, .slice a2 n2 c2] 43 (0, 0)) := by
    rw [← hX]
    exact (block_set_other _ ((block_set _ q13).trans (by first | rfl | simp)) (by omega))
  have p2 : X.heap[w.heap.size + 1]? = some (.cells #[.int .u8 (do' : Nat), .int .u8 0, .int .u64 r0, .int .u64 r1, .int .u64 r2, .int .u64 r3, .slice a3 n3 c3] 45 (0, 0)) := by
    rw [← hX]
    exact (block_set _ (block_set_other _ q23 (by omega))).trans (by first | rfl | simp)
  have hf3 := h3'.foot
  have h4 : StD X w1.heap.size w1.heap.size A3 L3 [] 1 := by
    rw [← hX]
    exact h3'.kept (fun k hk => (Below.heap_setCell _ _ _ k (by have := hf3 k hk; show _; simp; omega)).trans (Below.heap_setCell _ _ _ k (by have := hf3 k hk; simp; omega))) (by simp [World.setCell])
  rw [hX]
  have hP3 : PoL L3 [newV 5 0] [] := hP3
  have p1d : X.drew.heap[w.heap.size]? = some (.cells #[.int .u8 0, .int .u8 ow, .int .u16 rt, .bool jl, .int .u64 t0, .int .u64 t1, .int .u64 t2, .int .u64 t3, .int .u64 s0, .int .u64 s1, .int .u64 s2, .int .u64 s3, .slice a1 n1 c1, .slice a2 n2 c2] 43 (0, 0)) := p1
  have p2d : X.drew.heap[w.heap.size + 1]? = some (.cells #[.int .u8 (do' : Nat), .int .u8 0, .int .u64 r0, .int .u64 r1, .int .u64 r2, .int .u64 r3, .slice a3 n3 c3] 45 (0, 0)) := p2
  have hBXd : Below w.heap.size w X.drew := bd hBX
  have h4d : StD X.drew w1.heap.size w1.heap.size A3 L3 [] 1 := h4.below (bd (Below.refl _ _))
  obtain ⟨e1x, f1x⟩ := cells_of_block p1
  obtain ⟨e2x, f2x⟩ := cells_of_block p2
  clear hX e1 f1 e2 f2 e3 g3 e4 g4 q1 q2 q12 q22 q13 q23 hb1 hb2 h2 f3' h3' hA hB hz
  go_region_held2 (fun Z => Z.cell? ⟨w.heap.size, 0, none⟩ = some (.int .u8 0) ∧ Z.cell? ⟨w.heap.size, 1, none⟩ = some (.int .u8 ow) ∧ Z.cell? ⟨w.heap.size, 2, none⟩ = some (.int .u16 rt) ∧ Z.cell? ⟨w.heap.size, 3, none⟩ = some (.bool jl) ∧ Z.cell? ⟨w.heap.size, 4, none⟩ = some (.int .u64 t0) ∧ Z.cell? ⟨w.heap.size, 5, none⟩ = some (.int .u64 t1) ∧ Z.cell? ⟨w.heap.size, 6, none⟩ = some (.int .u64 t2) ∧ Z.cell? ⟨w.heap.size, 7, none⟩ = some (.int .u64 t3) ∧ Z.cell? ⟨w.heap.size, 8, none⟩ = some (.int .u64 s0) ∧ Z.cell? ⟨w.heap.size, 9, none⟩ = some (.int .u64 s1) ∧ Z.cell? ⟨w.heap.size, 10, none⟩ = some (.int .u64 s2) ∧ Z.cell? ⟨w.heap.size, 11, none⟩ = some (.int .u64 s3) ∧ Z.cell? ⟨w.heap.size, 12, none⟩ = some (.slice a1 n1 c1) ∧ Z.cell? ⟨w.heap.size, 13, none⟩ = some (.slice a2 n2 c2) ∧ Z.cell? ⟨w.heap.size + 1, 0, none⟩ = some (.int .u8 (do' : Nat)) ∧ Z.cell? ⟨w.heap.size + 1, 1, none⟩ = some (.int .u8 0) ∧ Z.cell? ⟨w.heap.size + 1, 2, none⟩ = some (.int .u64 r0) ∧ Z.cell? ⟨w.heap.size + 1, 3, none⟩ = some (.int .u64 r1) ∧ Z.cell? ⟨w.heap.size + 1, 4, none⟩ = some (.int .u64 r2) ∧ Z.cell? ⟨w.heap.size + 1, 5, none⟩ = some (.int .u64 r3) ∧ Z.cell? ⟨w.heap.size + 1, 6, none⟩ = some (.slice a3 n3 c3)) (first | (with_reducible assumption) | (go_simp)) (first
    | (go_at_call 16; with_reducible refine (hSV.out w1.heap.size X.drew A3 L3 hBXd h4d hP3).mono ?_; rintro e w4 ⟨rfl, A4, L4, h5, hP4, f4⟩; have p14 := fr_blk f4 (fun k hk => h4d.foot k hk) (by omega) p1d; have p24 := fr_blk f4 (fun k hk => h4d.foot k hk) z1 p2d; have hB4 := Fr.out hBXd f4 (fun k hk => by have := (h4d.foot k hk).1; omega); obtain ⟨e4x, f4x⟩ := cells_of_block p14; obtain ⟨e5x, f5x⟩ := cells_of_block p24)
    | (go_at_call 17; with_reducible refine (hSD.out w1.heap.size w4 A4 L4 hB4 h5 hP4).mono ?_; rintro e w5 ⟨rfl, A5, L5, h6, hP5, f5⟩; have p15 := fr_blk f5 (fun k hk => h5.foot k hk) (by omega) p14; have p25 := fr_blk f5 (fun k hk => h5.foot k hk) z1 p24; have hB5 := Fr.out hB4 f5 (fun k hk => by have := (h5.foot k hk).1; omega); obtain ⟨e6x, f6x⟩ := cells_of_block p15; obtain ⟨e7x, f7x⟩ := cells_of_block p25))
  have y1 := (Array.getElem?_eq_some_iff.1 p15).1
  have y2 := (Array.getElem?_eq_some_iff.1 p25).1
  clear e1x f1x e2x f2x e4x f4x e5x f5x p1 p2 h4 hBX p1d p2d hBXd h4d p14 p24 h5 f4 f5 hP3 hP4 hSV hSD hf3
  go_wp2_with (first
    | (go_at_call 18; refine (hVl.out _ _ A5 L5 h6 hP5).mono ?_; rintro e w6 ⟨b1, d1, b2, d2, rfl, u1, u2, hb6⟩; have p16 := (hb6.block _ y1).trans p15; have p26 := (hb6.block _ y2).trans p25; obtain ⟨e8x, f8x⟩ := cells_of_block p16; obtain ⟨e9x, f9x⟩ := cells_of_block p26; have y16 := (Array.getElem?_eq_some_iff.1 p16).1; have y26 := (Array.getElem?_eq_some_iff.1 p26).1; have u1 : Hid (IsCoins w6 _ _) := u1; have u2 : Hid (IsCoins w6 _ _) := u2)
    | (go_at_call 19; refine (hGt.out _ _ A5 L5 (h6.below (bt hb6 (by (repeat (first | (with_reducible exact Below.refl _ _) | (with_reducible assumption) | (with_reducible apply bd) | (with_reducible apply ba) | (with_reducible refine bp ?_ (by first | omega | (simp [pad_size]; done) | (simp [pad_size]; omega)) _ _) | (with_reducible refine bs ?_ (by first | omega | (simp [pad_size]; done) | (simp [pad_size]; omega)) _) | (with_reducible refine bt ?_ (by assumption))))))) hP5).mono ?_; rintro e w7 ⟨g1, g2, rfl, v1, hb7⟩; have v1 : Hid (IsCoins w7 _ _) := v1; have hb67 : Below w6.heap.size w6 w7 := bt (by (repeat (first | (with_reducible exact Below.refl _ _) | (with_reducible assumption) | (with_reducible apply bd) | (with_reducible apply ba) | (with_reducible refine bp ?_ (by first | omega | (simp [pad_size]; done) | (simp [pad_size]; omega)) _ _) | (with_reducible refine bs ?_ (by first | omega | (simp [pad_size]; done) | (simp [pad_size]; omega)) _) | (with_reducible refine bt ?_ (by assumption))))) hb7; have p17 := (hb67.block _ y16).trans p16; have p27 := (hb67.block _ y26).trans p26; have x67 := (hb7.block w6.heap.size (by simp)).trans (al_at rfl); obtain ⟨e10x, f10x⟩ := cells_of_block p17; obtain ⟨e11x, f11x⟩ := cells_of_block p27; obtain ⟨e12x, f12x⟩ := cells_of_block x67; have y17 := (Array.getElem?_eq_some_iff.1 p17).1; have y27 := (Array.getElem?_eq_some_iff.1 p27).1; have yx := (Array.getElem?_eq_some_iff.1 x67).1; have hB7 := bt hB5 (bt hb6 hb67))
    | (go_at_call 20; refine (same11_any (IsCoins.below u1.out (bt hb67 (by (repeat (first | (with_reducible exact Below.refl _ _) | (with_reducible assumption) | (with_reducible apply bd) | (with_reducible apply ba) | (with_reducible refine bp ?_ (by first | omega | (simp [pad_size]; done) | (simp [pad_size]; omega)) _ _) | (with_reducible refine bs ?_ (by first | omega | (simp [pad_size]; done) | (simp [pad_size]; omega)) _) | (with_reducible refine bt ?_ (by assumption))))))) (IsCoins.below u2.out (bt hb67 (by (repeat (first | (with_reducible exact Below.refl _ _) | (with_reducible assumption) | (with_reducible apply bd) | (with_reducible apply ba) | (with_reducible refine bp ?_ (by first | omega | (simp [pad_size]; done) | (simp [pad_size]; omega)) _ _) | (with_reducible refine bs ?_ (by first | omega | (simp [pad_size]; done) | (simp [pad_size]; omega)) _) | (with_reducible refine bt ?_ (by assumption))))))) (IsCoins.below i1.out (bt hB7 (by (repeat (first | (with_reducible exact Below.refl _ _) | (with_reducible assumption) | (with_reducible apply bd) | (with_reducible apply ba) | (with_reducible refine bp ?_ (by first | omega | (simp [pad_size]; done) | (simp [pad_size]; omega)) _ _) | (with_reducible refine bs ?_ (by first | omega | (simp [pad_size]; done) | (simp [pad_size]; omega)) _) | (with_reducible refine bt ?_ (by assumption))))))) (IsCoins.below i2.out (bt hB7 (by (repeat (first | (with_reducible exact Below.refl _ _) | (with_reducible assumption) | (with_reducible apply bd) | (with_reducible apply ba) | (with_reducible refine bp ?_ (by first | omega | (simp [pad_size]; done) | (simp [pad_size]; omega)) _ _) | (with_reducible refine bs ?_ (by first | omega | (simp [pad_size]; done) | (simp [pad_size]; omega)) _) | (with_reducible refine bt ?_ (by assumption)))))))).mono ?_; rintro e w8 ⟨rfl, hb8⟩; have hb78 : Below w7.heap.size w7 w8 := bt (by (repeat (first | (with_reducible exact Below.refl _ _) | (with_reducible assumption) | (with_reducible apply bd) | (with_reducible apply ba) | (with_reducible refine bp ?_ (by first | omega | (simp [pad_size]; done) | (simp [pad_size]; omega)) _ _) | (with_reducible refine bs ?_ (by first | omega | (simp [pad_size]; done) | (simp [pad_size]; omega)) _) | (with_reducible refine bt ?_ (by assumption))))) hb8; have p18 := (hb78.block _ y17).trans p17; have p28 := (hb78.block _ y27).trans p27; obtain ⟨e13x, f13x⟩ := cells_of_block p18; obtain ⟨e14x, f14x⟩ := cells_of_block p28; obtain ⟨e15x, f15x⟩ := cells_of_block ((hb78.block _ yx).trans x67); have xy8 := (hb8.block w7.heap.size (by simp)).trans (al_at rfl); obtain ⟨e16x, f16x⟩ := cells_of_block xy8)
    | (go_at_call 21; refine (hZr _).mono ?_; rintro e w9 ⟨rfl, hb9⟩; have hb79 : Below w8.heap.size w8 w9 := bt (by (repeat (first | (with_reducible exact Below.refl _ _) | (with_reducible assumption) | (with_reducible apply bd) | (with_reducible apply ba) | (with_reducible refine bp ?_ (by first | omega | (simp [pad_size]; done) | (simp [pad_size]; omega)) _ _) | (with_reducible refine bs ?_ (by first | omega | (simp [pad_size]; done) | (simp [pad_size]; omega)) _) | (with_reducible refine bt ?_ (by assumption))))) hb9; obtain ⟨e17x, f17x⟩ := cells_of_block ((hb79.block _ (Array.getElem?_eq_some_iff.1 p28).1).trans p28); obtain ⟨e18x, f18x⟩ := cells_of_block ((hb79.block w7.heap.size (Array.getElem?_eq_some_iff.1 xy8).1).trans xy8))
    | (go_at_call 14; refine (alike11_any (IsCoins.below v1.out (bt (bt hb78 hb79) (by (repeat (first | (with_reducible exact Below.refl _ _) | (with_reducible assumption) | (with_reducible apply bd) | (with_reducible apply ba) | (with_reducible refine bp ?_ (by first | omega | (simp [pad_size]; done) | (simp [pad_size]; omega)) _ _) | (with_reducible refine bs ?_ (by first | omega | (simp [pad_size]; done) | (simp [pad_size]; omega)) _) | (with_reducible refine bt ?_ (by assumption))))))) (IsCoins.below i3.out (bt (bt hB7 (bt hb78 hb79)) (by (repeat (first | (with_reducible exact Below.refl _ _) | (with_reducible assumption) | (with_reducible apply bd) | (with_reducible apply ba) | (with_reducible refine bp ?_ (by first | omega | (simp [pad_size]; done) | (simp [pad_size]; omega)) _ _) | (with_reducible refine bs ?_ (by first | omega | (simp [pad_size]; done) | (simp [pad_size]; omega)) _) | (with_reducible refine bt ?_ (by assumption)))))))).mono ?_; rintro e w10 ⟨rfl, hb10⟩))
  go_ret
  exact ⟨rfl, bt (bt hB7 (bt hb78 hb79)) hb10⟩
set_option maxRecDepth 20000 in
set_option maxHeartbeats 16000000 in
theorem there_1zero (h3 : ¬ 30 < sum3 n1 n2 n3) (hi : i ≤ 255) (hx : VIn ⟨ow, rt, jl, t0, t1, t2, t3, s0, s1, s2, s3, ix, er⟩) (l1 : CoIn w a1 n1 c1 ix) (l2 : CoIn w a2 n2 c2 er) (hy : DIn ⟨do', 0, r0, r1, r2, r3, jx⟩) (l3 : CoIn w a3 n3 c3 jx) (hm : mayB ow rt ix er = true) (hg1 : do' < 200) (hg2 : rightFrom 0 jx = true) (hg3 : eq4 r0 r1 r2 r3 0 0 0 0 = true) :
    Calls Try.prog 5 #[.agg #[.int .u8 (i : Nat), .int .u8 ow, .int .u16 rt, .bool jl, .int .u64 t0, .int .u64 t1, .int .u64 t2, .int .u64 t3, .int .u64 s0, .int .u64 s1, .int .u64 s2, .int .u64 s3, .slice a1 n1 c1, .slice a2 n2 c2], .agg #[.int .u8 (do' : Nat), .int .u8 (va : Nat), .int .u64 r0, .int .u64 r1, .int .u64 r2, .int .u64 r3, .slice a3 n3 c3]] w fun e w' => e = .returned (.bool true) ∧ Below w.heap.size w w' := by
  unfold sum3 at h3
  have hw := hy.ow
  simp only at hw
  have hSV : Hid (∀ (s : Nat) (X : World) (A : Nat → Prop) (L : List (List Int × List Int)), Below w.heap.size w X → StD X s s A L [] 1 → PoL L [newV 5 0] [] → Calls Try.prog 16 #[.pointer (some ⟨s, 0, none⟩), .agg #[.int .u8 0, .int .u8 ow, .int .u16 rt, .bool jl, .int .u64 t0, .int .u64 t1, .int .u64 t2, .int .u64 t3, .int .u64 s0, .int .u64 s1, .int .u64 s2, .int .u64 s3, .slice a1 n1 c1, .slice a2 n2 c2]] X fun e w' => e = .returned (.int .i64 0) ∧ ∃ A' L', StD w' s s A' L' [] 2 ∧ PoL L' [⟨ow, rt, jl, t0, t1, t2, t3, s0, s1, s2, s3, ix, er⟩] [] ∧ Fr X w' A A') := fun s X A L hX hS hP => by
    obtain ⟨rfl, i1, -⟩ := co_small l1 hX (hx.ok hm).ir
    obtain ⟨rfl, i2, -⟩ := co_small l2 hX (hx.ok hm).er
    refine (setVal_any (i := 0) hS hP (by omega) (by omega) hx hm i1 i2).mono ?_
    rintro e w' (⟨-, rfl, A', L', q1, q2, -, q4⟩ | ⟨e1, -⟩)
    · exact ⟨rfl, A', L', q1, q2, q4⟩
    · simp at e1
  have hSD : Hid (∀ (s : Nat) (X : World) (A : Nat → Prop) (L : List (List Int × List Int)), Below w.heap.size w X → StD X s s A L [] 2 → PoL L [⟨ow, rt, jl, t0, t1, t2, t3, s0, s1, s2, s3, ix, er⟩] [] → Calls Try.prog 17 #[.pointer (some ⟨s, 0, none⟩), .agg #[.int .u8 (do' : Nat), .int .u8 0, .int .u64 r0, .int .u64 r1, .int .u64 r2, .int .u64 r3, .slice a3 n3 c3]] X fun e w' => e = .returned (.int .i64 0) ∧ ∃ A' L', StD w' s s A' L' [] 3 ∧ PoL L' [⟨ow, rt, jl, t0, t1, t2, t3, s0, s1, s2, s3, ix, er⟩] [] ∧ Fr X w' A A') := fun s X A L hX hS hP => by
    obtain ⟨rfl, i1, -⟩ := co_small l3 hX hg2
    have e1 : setD [] ⟨do', 0, r0, r1, r2, r3, jx⟩ = [] := by unfold setD; simp only [hg3]; rfl
    refine (setDg_any hS hP (by omega) hy hg1 hg2 i1).mono ?_
    rintro e w' (⟨-, rfl, A', L', q1, q2, -, q4⟩ | ⟨e2, -⟩)
    · exact ⟨rfl, A', L', q1, by rw [e1] at q2; exact q2, q4⟩
    · simp at e2
  obtain ⟨en1, i1, -⟩ := co_small l1 (Below.refl _ _) (hx.ok hm).ir
  obtain ⟨en2, i2, -⟩ := co_small l2 (Below.refl _ _) (hx.ok hm).er
  rw [← en1] at i1
  rw [← en2] at i2
  replace i1 : Hid (IsCoins w _ _) := i1
  replace i2 : Hid (IsCoins w _ _) := i2
  have hZr := fun Y => zero11_any r0 r1 r2 r3 Y
  rw [hg3] at hZr
  have hVl : Hid (∀ (s : Nat) (X : World) (A : Nat → Prop) (L : List (List Int × List Int)), StD X s s A L [] 3 → PoL L [⟨ow, rt, jl, t0, t1, t2, t3, s0, s1, s2, s3, ix, er⟩] [] → Calls Try.prog 18 #[.pointer (some ⟨s, 0, none⟩), .int .u8 0] X fun e w' => ∃ b1 d1 b2 d2, e = .returned (.tuple #[.agg #[.int .u8 0, .int .u8 ow, .int .u16 rt, .bool jl, .int .u64 t0, .int .u64 t1, .int .u64 t2, .int .u64 t3, .int .u64 s0, .int .u64 s1, .int .u64 s2, .int .u64 s3, .slice b1 n1 d1, .slice b2 n2 d2], .bool true]) ∧ IsCoins w' (.slice b1 n1 d1) ix ∧ IsCoins w' (.slice b2 n2 d2) er ∧ Below X.heap.size X w') := fun s X A L hS hP => by
    have hl := right_len (hP.vok _ (List.mem_singleton.2 rfl)).ir
    have hl2 := right_len (hP.vok _ (List.mem_singleton.2 rfl)).er
    simp only [newV] at hl hl2
    rw [en1, en2]
    refine (val_yes (i := 0) hS hP (by omega) rfl).mono ?_
    rintro e w' ⟨b1, d1, b2, d2, rfl, u1, u2, hb⟩
    exact ⟨b1, d1, b2, d2, rfl, own_coins u1 (by omega), own_coins u2 (by omega), hb⟩
  have hGt : Hid (∀ (s : Nat) (X : World) (A : Nat → Prop) (L : List (List Int × List Int)), StD X s s A L [] 3 → PoL L [⟨ow, rt, jl, t0, t1, t2, t3, s0, s1, s2, s3, ix, er⟩] [] → Calls Try.prog 19 #[.pointer (some ⟨s, 0, none⟩), .int .u8 (do' : Nat), .int .u8 0] X fun e w' => e = .returned (.tuple #[.agg #[.int .u8 0, .int .u8 0, .int .u64 0, .int .u64 0, .int .u64 0, .int .u64 0, .slice none 0 0], .bool false]) ∧ Below X.heap.size X w') := fun s X A L hS hP => by
    exact getD_not (a := do') (b := 0) hS hP (by omega) hw (by decide) (by simp)
  have hm0 : mayB 5 0 [] [] = true := by decide
  have hA : (((w.alloc (.cells #[.int .u8 (i : Nat), .int .u8 ow, .int .u16 rt, .bool jl, .int .u64 t0, .int .u64 t1, .int .u64 t2, .int .u64 t3, .int .u64 s0, .int .u64 s1, .int .u64 s2, .int .u64 s3, .slice a1 n1 c1, .slice a2 n2 c2] 43)).alloc (.cells #[.int .u8 (do' : Nat), .int .u8 (va : Nat), .int .u64 r0, .int .u64 r1, .int .u64 r2, .int .u64 r3, .slice a3 n3 c3] 45))).heap[w.heap.size]? = some (.cells #[.int .u8 (i : Nat), .int .u8 ow, .int .u16 rt, .bool jl, .int .u64 t0, .int .u64 t1, .int .u64 t2, .int .u64 t3, .int .u64 s0, .int .u64 s1, .int .u64 s2, .int .u64 s3, .slice a1 n1 c1, .slice a2 n2 c2] 43 (0, 0)) := (al_old (by simp)).trans (al_at rfl)
  have hB : (((w.alloc (.cells #[.int .u8 (i : Nat), .int .u8 ow, .int .u16 rt, .bool jl, .int .u64 t0, .int .u64 t1, .int .u64 t2, .int .u64 t3, .int .u64 s0, .int .u64 s1, .int .u64 s2, .int .u64 s3, .slice a1 n1 c1, .slice a2 n2 c2] 43)).alloc (.cells #[.int .u8 (do' : Nat), .int .u8 (va : Nat), .int .u64 r0, .int .u64 r1, .int .u64 r2, .int .u64 r3, .slice a3 n3 c3] 45))).heap[w.heap.size + 1]? = some (.cells #[.int .u8 (do' : Nat), .int .u8 (va : Nat), .int .u64 r0, .int .u64 r1, .int .u64 r2, .int .u64 r3, .slice a3 n3 c3] 45 (0, 0)) := al_at (by simp)
  have hz : (((w.alloc (.cells #[.int .u8 (i : Nat), .int .u8 ow, .int .u16 rt, .bool jl, .int .u64 t0, .int .u64 t1, .int .u64 t2, .int .u64 t3, .int .u64 s0, .int .u64 s1, .int .u64 s2, .int .u64 s3, .slice a1 n1 c1, .slice a2 n2 c2] 43)).alloc (.cells #[.int .u8 (do' : Nat), .int .u8 (va : Nat), .int .u64 r0, .int .u64 r1, .int .u64 r2, .int .u64 r3, .slice a3 n3 c3] 45))).heap.size = w.heap.size + 1 + 1 := by simp
  have hw8 : IntKind.u8.wrap (0 : Int) = 0 := by decide
  clear hx hy l1 l2 l3 hm hg1 hg2 hg3 hi hw en1 en2 
  go_enter Try.func5, Try.ntmps5
  go_upto_region 6 with (first
    | (go_at_call 8; refine (adds_any _).mono ?_; rintro e w1 ⟨rfl, hb1⟩; have q1 := (hb1.block w.heap.size (by omega)).trans hA; have q2 := (hb1.block (w.heap.size + 1) (by omega)).trans hB; obtain ⟨e1, f1⟩ := cells_of_block q1; obtain ⟨e2, f2⟩ := cells_of_block q2; have hB1 : Below w.heap.size w w1 := bt (by (repeat (first | (with_reducible exact Below.refl _ _) | (with_reducible assumption) | (with_reducible apply bd) | (with_reducible apply ba) | (with_reducible refine bp ?_ (by first | omega | (simp [pad_size]; done) | (simp [pad_size]; omega)) _ _) | (with_reducible refine bs ?_ (by first | omega | (simp [pad_size]; done) | (simp [pad_size]; omega)) _) | (with_reducible refine bt ?_ (by assumption))))) hb1; have z1 : w.heap.size + 1 < w1.heap.size := (Array.getElem?_eq_some_iff.1 q2).1)
    | (go_at_call 10; refine (stdNew _).mono ?_; rintro e w2 ⟨rfl, h2, hb2⟩; have hB2 := bt hB1 hb2; have q12 := (hb2.block w.heap.size (by omega)).trans q1; have q22 := (hb2.block (w.heap.size + 1) z1).trans q2)
    | (go_at_call 15; (refine (add_any h2 PoL.new (by omega) (by omega) (by omega) hm0).mono ?_; (rintro e w3 (⟨-, rfl, A3, L3, h3', hP3, -, f3'⟩ | ⟨e1, -⟩); rotate_left; exact absurd e1 (by simp)); have q13 := fr_blk f3' h2.foot (by omega) q12; have q23 := fr_blk f3' h2.foot z1 q22; obtain ⟨e3, g3⟩ := cells_of_block q13; obtain ⟨e4, g4⟩ := cells_of_block q23; have hB3 := Fr.out hB2 f3' (fun k hk => by have := (h2.foot k hk).1; omega))))
  obtain ⟨X, hX⟩ : ∃ X, (w3.setCell ⟨w.heap.size, 0, none⟩ (.int .u8 0)).setCell ⟨w.heap.size + 1, 1, none⟩ (.int .u8 0) = X := ⟨_, rfl⟩
  have hBX : Below w.heap.size w X := by rw [← hX]; exact bs (bs hB3 (Nat.le_refl _) _) (Nat.le_succ _) _
  have p1 : X.heap[w.heap.size]? = some (.cells #[.int .u8 0, .int .u8 ow, .int .u16 rt, .bool jl, .int .u64 t0, .int .u64 t1, .int .u64 t2, .int .u64 t3, .int .u64 s0, .int .u64 s1, .int .u64 s2, .int .u64 s3, .slice a1 n1 c1, .slice a2 n2 c2] 43 (0, 0)) := by
    rw [← hX]
    exact (block_set_other _ ((block_set _ q13).trans (by first | rfl | simp)) (by omega))
  have p2 : X.heap[w.heap.size + 1]? = some (.cells #[.int .u8 (do' : Nat), .int .u8 0, .int .u64 r0, .int .u64 r1, .int .u64 r2, .int .u64 r3, .slice a3 n3 c3] 45 (0, 0)) := by
    rw [← hX]
    exact (block_set _ (block_set_other _ q23 (by omega))).trans (by first | rfl | simp)
  have hf3 := h3'.foot
  have h4 : StD X w1.heap.size w1.heap.size A3 L3 [] 1 := by
    rw [← hX]
    exact h3'.kept (fun k hk => (Below.heap_setCell _ _ _ k (by have := hf3 k hk; show _; simp; omega)).trans (Below.heap_setCell _ _ _ k (by have := hf3 k hk; simp; omega))) (by simp [World.setCell])
  rw [hX]
  have hP3 : PoL L3 [newV 5 0] [] := hP3
  have p1d : X.drew.heap[w.heap.size]? = some (.cells #[.int .u8 0, .int .u8 ow, .int .u16 rt, .bool jl, .int .u64 t0, .int .u64 t1, .int .u64 t2, .int .u64 t3, .int .u64 s0, .int .u64 s1, .int .u64 s2, .int .u64 s3, .slice a1 n1 c1, .slice a2 n2 c2] 43 (0, 0)) := p1
  have p2d : X.drew.heap[w.heap.size + 1]? = some (.cells #[.int .u8 (do' : Nat), .int .u8 0, .int .u64 r0, .int .u64 r1, .int .u64 r2, .int .u64 r3, .slice a3 n3 c3] 45 (0, 0)) := p2
  have hBXd : Below w.heap.size w X.drew := bd hBX
  have h4d : StD X.drew w1.heap.size w1.heap.size A3 L3 [] 1 := h4.below (bd (Below.refl _ _))
  obtain ⟨e1x, f1x⟩ := cells_of_block p1
  obtain ⟨e2x, f2x⟩ := cells_of_block p2
  clear hX e1 f1 e2 f2 e3 g3 e4 g4 q1 q2 q12 q22 q13 q23 hb1 hb2 h2 f3' h3' hA hB hz
  go_region_held2 (fun Z => Z.cell? ⟨w.heap.size, 0, none⟩ = some (.int .u8 0) ∧ Z.cell? ⟨w.heap.size, 1, none⟩ = some (.int .u8 ow) ∧ Z.cell? ⟨w.heap.size, 2, none⟩ = some (.int .u16 rt) ∧ Z.cell? ⟨w.heap.size, 3, none⟩ = some (.bool jl) ∧ Z.cell? ⟨w.heap.size, 4, none⟩ = some (.int .u64 t0) ∧ Z.cell? ⟨w.heap.size, 5, none⟩ = some (.int .u64 t1) ∧ Z.cell? ⟨w.heap.size, 6, none⟩ = some (.int .u64 t2) ∧ Z.cell? ⟨w.heap.size, 7, none⟩ = some (.int .u64 t3) ∧ Z.cell? ⟨w.heap.size, 8, none⟩ = some (.int .u64 s0) ∧ Z.cell? ⟨w.heap.size, 9, none⟩ = some (.int .u64 s1) ∧ Z.cell? ⟨w.heap.size, 10, none⟩ = some (.int .u64 s2) ∧ Z.cell? ⟨w.heap.size, 11, none⟩ = some (.int .u64 s3) ∧ Z.cell? ⟨w.heap.size, 12, none⟩ = some (.slice a1 n1 c1) ∧ Z.cell? ⟨w.heap.size, 13, none⟩ = some (.slice a2 n2 c2) ∧ Z.cell? ⟨w.heap.size + 1, 0, none⟩ = some (.int .u8 (do' : Nat)) ∧ Z.cell? ⟨w.heap.size + 1, 1, none⟩ = some (.int .u8 0) ∧ Z.cell? ⟨w.heap.size + 1, 2, none⟩ = some (.int .u64 r0) ∧ Z.cell? ⟨w.heap.size + 1, 3, none⟩ = some (.int .u64 r1) ∧ Z.cell? ⟨w.heap.size + 1, 4, none⟩ = some (.int .u64 r2) ∧ Z.cell? ⟨w.heap.size + 1, 5, none⟩ = some (.int .u64 r3) ∧ Z.cell? ⟨w.heap.size + 1, 6, none⟩ = some (.slice a3 n3 c3)) (first | (with_reducible assumption) | (go_simp)) (first
    | (go_at_call 16; with_reducible refine (hSV.out w1.heap.size X.drew A3 L3 hBXd h4d hP3).mono ?_; rintro e w4 ⟨rfl, A4, L4, h5, hP4, f4⟩; have p14 := fr_blk f4 (fun k hk => h4d.foot k hk) (by omega) p1d; have p24 := fr_blk f4 (fun k hk => h4d.foot k hk) z1 p2d; have hB4 := Fr.out hBXd f4 (fun k hk => by have := (h4d.foot k hk).1; omega); obtain ⟨e4x, f4x⟩ := cells_of_block p14; obtain ⟨e5x, f5x⟩ := cells_of_block p24)
    | (go_at_call 17; with_reducible refine (hSD.out w1.heap.size w4 A4 L4 hB4 h5 hP4).mono ?_; rintro e w5 ⟨rfl, A5, L5, h6, hP5, f5⟩; have p15 := fr_blk f5 (fun k hk => h5.foot k hk) (by omega) p14; have p25 := fr_blk f5 (fun k hk => h5.foot k hk) z1 p24; have hB5 := Fr.out hB4 f5 (fun k hk => by have := (h5.foot k hk).1; omega); obtain ⟨e6x, f6x⟩ := cells_of_block p15; obtain ⟨e7x, f7x⟩ := cells_of_block p25))
  have y1 := (Array.getElem?_eq_some_iff.1 p15).1
  have y2 := (Array.getElem?_eq_some_iff.1 p25).1
  clear e1x f1x e2x f2x e4x f4x e5x f5x p1 p2 h4 hBX p1d p2d hBXd h4d p14 p24 h5 f4 f5 hP3 hP4 hSV hSD hf3
  go_wp2_with (first
    | (go_at_call 18; refine (hVl.out _ _ A5 L5 h6 hP5).mono ?_; rintro e w6 ⟨b1, d1, b2, d2, rfl, u1, u2, hb6⟩; have p16 := (hb6.block _ y1).trans p15; have p26 := (hb6.block _ y2).trans p25; obtain ⟨e8x, f8x⟩ := cells_of_block p16; obtain ⟨e9x, f9x⟩ := cells_of_block p26; have y16 := (Array.getElem?_eq_some_iff.1 p16).1; have y26 := (Array.getElem?_eq_some_iff.1 p26).1; have u1 : Hid (IsCoins w6 _ _) := u1; have u2 : Hid (IsCoins w6 _ _) := u2)
    | (go_at_call 19; refine (hGt.out _ _ A5 L5 (h6.below (bt hb6 (by (repeat (first | (with_reducible exact Below.refl _ _) | (with_reducible assumption) | (with_reducible apply bd) | (with_reducible apply ba) | (with_reducible refine bp ?_ (by first | omega | (simp [pad_size]; done) | (simp [pad_size]; omega)) _ _) | (with_reducible refine bs ?_ (by first | omega | (simp [pad_size]; done) | (simp [pad_size]; omega)) _) | (with_reducible refine bt ?_ (by assumption))))))) hP5).mono ?_; rintro e w7 ⟨rfl, hb7⟩; have hb67 : Below w6.heap.size w6 w7 := bt (by (repeat (first | (with_reducible exact Below.refl _ _) | (with_reducible assumption) | (with_reducible apply bd) | (with_reducible apply ba) | (with_reducible refine bp ?_ (by first | omega | (simp [pad_size]; done) | (simp [pad_size]; omega)) _ _) | (with_reducible refine bs ?_ (by first | omega | (simp [pad_size]; done) | (simp [pad_size]; omega)) _) | (with_reducible refine bt ?_ (by assumption))))) hb7; have p17 := (hb67.block _ y16).trans p16; have p27 := (hb67.block _ y26).trans p26; have x67 := (hb7.block w6.heap.size (by simp)).trans (al_at rfl); obtain ⟨e10x, f10x⟩ := cells_of_block p17; obtain ⟨e11x, f11x⟩ := cells_of_block p27; obtain ⟨e12x, f12x⟩ := cells_of_block x67; have y17 := (Array.getElem?_eq_some_iff.1 p17).1; have y27 := (Array.getElem?_eq_some_iff.1 p27).1; have yx := (Array.getElem?_eq_some_iff.1 x67).1; have hB7 := bt hB5 (bt hb6 hb67))
    | (go_at_call 20; refine (same11_any (IsCoins.below u1.out (bt hb67 (by (repeat (first | (with_reducible exact Below.refl _ _) | (with_reducible assumption) | (with_reducible apply bd) | (with_reducible apply ba) | (with_reducible refine bp ?_ (by first | omega | (simp [pad_size]; done) | (simp [pad_size]; omega)) _ _) | (with_reducible refine bs ?_ (by first | omega | (simp [pad_size]; done) | (simp [pad_size]; omega)) _) | (with_reducible refine bt ?_ (by assumption))))))) (IsCoins.below u2.out (bt hb67 (by (repeat (first | (with_reducible exact Below.refl _ _) | (with_reducible assumption) | (with_reducible apply bd) | (with_reducible apply ba) | (with_reducible refine bp ?_ (by first | omega | (simp [pad_size]; done) | (simp [pad_size]; omega)) _ _) | (with_reducible refine bs ?_ (by first | omega | (simp [pad_size]; done) | (simp [pad_size]; omega)) _) | (with_reducible refine bt ?_ (by assumption))))))) (IsCoins.below i1.out (bt hB7 (by (repeat (first | (with_reducible exact Below.refl _ _) | (with_reducible assumption) | (with_reducible apply bd) | (with_reducible apply ba) | (with_reducible refine bp ?_ (by first | omega | (simp [pad_size]; done) | (simp [pad_size]; omega)) _ _) | (with_reducible refine bs ?_ (by first | omega | (simp [pad_size]; done) | (simp [pad_size]; omega)) _) | (with_reducible refine bt ?_ (by assumption))))))) (IsCoins.below i2.out (bt hB7 (by (repeat (first | (with_reducible exact Below.refl _ _) | (with_reducible assumption) | (with_reducible apply bd) | (with_reducible apply ba) | (with_reducible refine bp ?_ (by first | omega | (simp [pad_size]; done) | (simp [pad_size]; omega)) _ _) | (with_reducible refine bs ?_ (by first | omega | (simp [pad_size]; done) | (simp [pad_size]; omega)) _) | (with_reducible refine bt ?_ (by assumption)))))))).mono ?_; rintro e w8 ⟨rfl, hb8⟩; have hb78 : Below w7.heap.size w7 w8 := bt (by (repeat (first | (with_reducible exact Below.refl _ _) | (with_reducible assumption) | (with_reducible apply bd) | (with_reducible apply ba) | (with_reducible refine bp ?_ (by first | omega | (simp [pad_size]; done) | (simp [pad_size]; omega)) _ _) | (with_reducible refine bs ?_ (by first | omega | (simp [pad_size]; done) | (simp [pad_size]; omega)) _) | (with_reducible refine bt ?_ (by assumption))))) hb8; have p18 := (hb78.block _ y17).trans p17; have p28 := (hb78.block _ y27).trans p27; obtain ⟨e13x, f13x⟩ := cells_of_block p18; obtain ⟨e14x, f14x⟩ := cells_of_block p28; obtain ⟨e15x, f15x⟩ := cells_of_block ((hb78.block _ yx).trans x67); have xy8 := (hb8.block w7.heap.size (by simp)).trans (al_at rfl); obtain ⟨e16x, f16x⟩ := cells_of_block xy8)
    | (go_at_call 21; refine (hZr _).mono ?_; rintro e w9 ⟨rfl, hb9⟩; have hb79 : Below w8.heap.size w8 w9 := bt (by (repeat (first | (with_reducible exact Below.refl _ _) | (with_reducible assumption) | (with_reducible apply bd) | (with_reducible apply ba) | (with_reducible refine bp ?_ (by first | omega | (simp [pad_size]; done) | (simp [pad_size]; omega)) _ _) | (with_reducible refine bs ?_ (by first | omega | (simp [pad_size]; done) | (simp [pad_size]; omega)) _) | (with_reducible refine bt ?_ (by assumption))))) hb9; obtain ⟨e17x, f17x⟩ := cells_of_block ((hb79.block _ (Array.getElem?_eq_some_iff.1 p28).1).trans p28); obtain ⟨e18x, f18x⟩ := cells_of_block ((hb79.block w7.heap.size (Array.getElem?_eq_some_iff.1 xy8).1).trans xy8))
    )
  go_ret
  exact ⟨rfl, (bt hB7 (bt hb78 hb79))⟩
set_option maxRecDepth 20000 in
set_option maxHeartbeats 16000000 in
theorem there_1bad (h3 : ¬ 30 < sum3 n1 n2 n3) (hi : i ≤ 255) (hx : VIn ⟨ow, rt, jl, t0, t1, t2, t3, s0, s1, s2, s3, ix, er⟩) (l1 : CoIn w a1 n1 c1 ix) (l2 : CoIn w a2 n2 c2 er) (hy : DIn ⟨do', 0, r0, r1, r2, r3, jx⟩) (l3 : CoIn w a3 n3 c3 jx) (hm : mayB ow rt ix er = true) (hg : 200 ≤ do' ∨ rightFrom 0 jx = false) :
    Calls Try.prog 5 #[.agg #[.int .u8 (i : Nat), .int .u8 ow, .int .u16 rt, .bool jl, .int .u64 t0, .int .u64 t1, .int .u64 t2, .int .u64 t3, .int .u64 s0, .int .u64 s1, .int .u64 s2, .int .u64 s3, .slice a1 n1 c1, .slice a2 n2 c2], .agg #[.int .u8 (do' : Nat), .int .u8 (va : Nat), .int .u64 r0, .int .u64 r1, .int .u64 r2, .int .u64 r3, .slice a3 n3 c3]] w fun e w' => e = .returned (.bool true) ∧ Below w.heap.size w w' := by
  unfold sum3 at h3
  have hw := hy.ow
  simp only at hw
  have hSV : Hid (∀ (s : Nat) (X : World) (A : Nat → Prop) (L : List (List Int × List Int)), Below w.heap.size w X → StD X s s A L [] 1 → PoL L [newV 5 0] [] → Calls Try.prog 16 #[.pointer (some ⟨s, 0, none⟩), .agg #[.int .u8 0, .int .u8 ow, .int .u16 rt, .bool jl, .int .u64 t0, .int .u64 t1, .int .u64 t2, .int .u64 t3, .int .u64 s0, .int .u64 s1, .int .u64 s2, .int .u64 s3, .slice a1 n1 c1, .slice a2 n2 c2]] X fun e w' => e = .returned (.int .i64 0) ∧ ∃ A' L', StD w' s s A' L' [] 2 ∧ PoL L' [⟨ow, rt, jl, t0, t1, t2, t3, s0, s1, s2, s3, ix, er⟩] [] ∧ Fr X w' A A') := fun s X A L hX hS hP => by
    obtain ⟨rfl, i1, -⟩ := co_small l1 hX (hx.ok hm).ir
    obtain ⟨rfl, i2, -⟩ := co_small l2 hX (hx.ok hm).er
    refine (setVal_any (i := 0) hS hP (by omega) (by omega) hx hm i1 i2).mono ?_
    rintro e w' (⟨-, rfl, A', L', q1, q2, -, q4⟩ | ⟨e1, -⟩)
    · exact ⟨rfl, A', L', q1, q2, q4⟩
    · simp at e1
  have hSD : Hid (∀ (s : Nat) (X : World) (A : Nat → Prop) (L : List (List Int × List Int)), Below w.heap.size w X → StD X s s A L [] 2 → PoL L [⟨ow, rt, jl, t0, t1, t2, t3, s0, s1, s2, s3, ix, er⟩] [] → Calls Try.prog 17 #[.pointer (some ⟨s, 0, none⟩), .agg #[.int .u8 (do' : Nat), .int .u8 0, .int .u64 r0, .int .u64 r1, .int .u64 r2, .int .u64 r3, .slice a3 n3 c3]] X fun e w' => e = .returned (.int .i64 1) ∧ ∃ A' L', StD w' s s A' L' [] 3 ∧ PoL L' [⟨ow, rt, jl, t0, t1, t2, t3, s0, s1, s2, s3, ix, er⟩] [] ∧ Fr X w' A A') := fun s X A L hX hS hP => by
    obtain ⟨i1, rfl⟩ := l3
    refine (setDg_bad hy (i1.below hX) _ (.inr hg)).mono ?_
    rintro e w' ⟨rfl, hb⟩
    exact ⟨rfl, A, L, (hS.below hb).up (by omega), hP, Fr.below hb⟩
  obtain ⟨en1, i1, -⟩ := co_small l1 (Below.refl _ _) (hx.ok hm).ir
  obtain ⟨en2, i2, -⟩ := co_small l2 (Below.refl _ _) (hx.ok hm).er
  rw [← en1] at i1
  rw [← en2] at i2
  replace i1 : Hid (IsCoins w _ _) := i1
  replace i2 : Hid (IsCoins w _ _) := i2
  have hVl : Hid (∀ (s : Nat) (X : World) (A : Nat → Prop) (L : List (List Int × List Int)), StD X s s A L [] 3 → PoL L [⟨ow, rt, jl, t0, t1, t2, t3, s0, s1, s2, s3, ix, er⟩] [] → Calls Try.prog 18 #[.pointer (some ⟨s, 0, none⟩), .int .u8 0] X fun e w' => ∃ b1 d1 b2 d2, e = .returned (.tuple #[.agg #[.int .u8 0, .int .u8 ow, .int .u16 rt, .bool jl, .int .u64 t0, .int .u64 t1, .int .u64 t2, .int .u64 t3, .int .u64 s0, .int .u64 s1, .int .u64 s2, .int .u64 s3, .slice b1 n1 d1, .slice b2 n2 d2], .bool true]) ∧ IsCoins w' (.slice b1 n1 d1) ix ∧ IsCoins w' (.slice b2 n2 d2) er ∧ Below X.heap.size X w') := fun s X A L hS hP => by
    have hl := right_len (hP.vok _ (List.mem_singleton.2 rfl)).ir
    have hl2 := right_len (hP.vok _ (List.mem_singleton.2 rfl)).er
    simp only [newV] at hl hl2
    rw [en1, en2]
    refine (val_yes (i := 0) hS hP (by omega) rfl).mono ?_
    rintro e w' ⟨b1, d1, b2, d2, rfl, u1, u2, hb⟩
    exact ⟨b1, d1, b2, d2, rfl, own_coins u1 (by omega), own_coins u2 (by omega), hb⟩
  have hGt : Hid (∀ (s : Nat) (X : World) (A : Nat → Prop) (L : List (List Int × List Int)), StD X s s A L [] 3 → PoL L [⟨ow, rt, jl, t0, t1, t2, t3, s0, s1, s2, s3, ix, er⟩] [] → Calls Try.prog 19 #[.pointer (some ⟨s, 0, none⟩), .int .u8 (do' : Nat), .int .u8 0] X fun e w' => e = .returned (.tuple #[.agg #[.int .u8 0, .int .u8 0, .int .u64 0, .int .u64 0, .int .u64 0, .int .u64 0, .slice none 0 0], .bool false]) ∧ Below X.heap.size X w') := fun s X A L hS hP => by
    exact getD_not (a := do') (b := 0) hS hP (by omega) hw (by decide) (by simp)
  have hm0 : mayB 5 0 [] [] = true := by decide
  have hA : (((w.alloc (.cells #[.int .u8 (i : Nat), .int .u8 ow, .int .u16 rt, .bool jl, .int .u64 t0, .int .u64 t1, .int .u64 t2, .int .u64 t3, .int .u64 s0, .int .u64 s1, .int .u64 s2, .int .u64 s3, .slice a1 n1 c1, .slice a2 n2 c2] 43)).alloc (.cells #[.int .u8 (do' : Nat), .int .u8 (va : Nat), .int .u64 r0, .int .u64 r1, .int .u64 r2, .int .u64 r3, .slice a3 n3 c3] 45))).heap[w.heap.size]? = some (.cells #[.int .u8 (i : Nat), .int .u8 ow, .int .u16 rt, .bool jl, .int .u64 t0, .int .u64 t1, .int .u64 t2, .int .u64 t3, .int .u64 s0, .int .u64 s1, .int .u64 s2, .int .u64 s3, .slice a1 n1 c1, .slice a2 n2 c2] 43 (0, 0)) := (al_old (by simp)).trans (al_at rfl)
  have hB : (((w.alloc (.cells #[.int .u8 (i : Nat), .int .u8 ow, .int .u16 rt, .bool jl, .int .u64 t0, .int .u64 t1, .int .u64 t2, .int .u64 t3, .int .u64 s0, .int .u64 s1, .int .u64 s2, .int .u64 s3, .slice a1 n1 c1, .slice a2 n2 c2] 43)).alloc (.cells #[.int .u8 (do' : Nat), .int .u8 (va : Nat), .int .u64 r0, .int .u64 r1, .int .u64 r2, .int .u64 r3, .slice a3 n3 c3] 45))).heap[w.heap.size + 1]? = some (.cells #[.int .u8 (do' : Nat), .int .u8 (va : Nat), .int .u64 r0, .int .u64 r1, .int .u64 r2, .int .u64 r3, .slice a3 n3 c3] 45 (0, 0)) := al_at (by simp)
  have hz : (((w.alloc (.cells #[.int .u8 (i : Nat), .int .u8 ow, .int .u16 rt, .bool jl, .int .u64 t0, .int .u64 t1, .int .u64 t2, .int .u64 t3, .int .u64 s0, .int .u64 s1, .int .u64 s2, .int .u64 s3, .slice a1 n1 c1, .slice a2 n2 c2] 43)).alloc (.cells #[.int .u8 (do' : Nat), .int .u8 (va : Nat), .int .u64 r0, .int .u64 r1, .int .u64 r2, .int .u64 r3, .slice a3 n3 c3] 45))).heap.size = w.heap.size + 1 + 1 := by simp
  have hw8 : IntKind.u8.wrap (0 : Int) = 0 := by decide
  clear hx hy l1 l2 l3 hm hg hi hw en1 en2 
  go_enter Try.func5, Try.ntmps5
  go_upto_region 6 with (first
    | (go_at_call 8; refine (adds_any _).mono ?_; rintro e w1 ⟨rfl, hb1⟩; have q1 := (hb1.block w.heap.size (by omega)).trans hA; have q2 := (hb1.block (w.heap.size + 1) (by omega)).trans hB; obtain ⟨e1, f1⟩ := cells_of_block q1; obtain ⟨e2, f2⟩ := cells_of_block q2; have hB1 : Below w.heap.size w w1 := bt (by (repeat (first | (with_reducible exact Below.refl _ _) | (with_reducible assumption) | (with_reducible apply bd) | (with_reducible apply ba) | (with_reducible refine bp ?_ (by first | omega | (simp [pad_size]; done) | (simp [pad_size]; omega)) _ _) | (with_reducible refine bs ?_ (by first | omega | (simp [pad_size]; done) | (simp [pad_size]; omega)) _) | (with_reducible refine bt ?_ (by assumption))))) hb1; have z1 : w.heap.size + 1 < w1.heap.size := (Array.getElem?_eq_some_iff.1 q2).1)
    | (go_at_call 10; refine (stdNew _).mono ?_; rintro e w2 ⟨rfl, h2, hb2⟩; have hB2 := bt hB1 hb2; have q12 := (hb2.block w.heap.size (by omega)).trans q1; have q22 := (hb2.block (w.heap.size + 1) z1).trans q2)
    | (go_at_call 15; (refine (add_any h2 PoL.new (by omega) (by omega) (by omega) hm0).mono ?_; (rintro e w3 (⟨-, rfl, A3, L3, h3', hP3, -, f3'⟩ | ⟨e1, -⟩); rotate_left; exact absurd e1 (by simp)); have q13 := fr_blk f3' h2.foot (by omega) q12; have q23 := fr_blk f3' h2.foot z1 q22; obtain ⟨e3, g3⟩ := cells_of_block q13; obtain ⟨e4, g4⟩ := cells_of_block q23; have hB3 := Fr.out hB2 f3' (fun k hk => by have := (h2.foot k hk).1; omega))))
  obtain ⟨X, hX⟩ : ∃ X, (w3.setCell ⟨w.heap.size, 0, none⟩ (.int .u8 0)).setCell ⟨w.heap.size + 1, 1, none⟩ (.int .u8 0) = X := ⟨_, rfl⟩
  have hBX : Below w.heap.size w X := by rw [← hX]; exact bs (bs hB3 (Nat.le_refl _) _) (Nat.le_succ _) _
  have p1 : X.heap[w.heap.size]? = some (.cells #[.int .u8 0, .int .u8 ow, .int .u16 rt, .bool jl, .int .u64 t0, .int .u64 t1, .int .u64 t2, .int .u64 t3, .int .u64 s0, .int .u64 s1, .int .u64 s2, .int .u64 s3, .slice a1 n1 c1, .slice a2 n2 c2] 43 (0, 0)) := by
    rw [← hX]
    exact (block_set_other _ ((block_set _ q13).trans (by first | rfl | simp)) (by omega))
  have p2 : X.heap[w.heap.size + 1]? = some (.cells #[.int .u8 (do' : Nat), .int .u8 0, .int .u64 r0, .int .u64 r1, .int .u64 r2, .int .u64 r3, .slice a3 n3 c3] 45 (0, 0)) := by
    rw [← hX]
    exact (block_set _ (block_set_other _ q23 (by omega))).trans (by first | rfl | simp)
  have hf3 := h3'.foot
  have h4 : StD X w1.heap.size w1.heap.size A3 L3 [] 1 := by
    rw [← hX]
    exact h3'.kept (fun k hk => (Below.heap_setCell _ _ _ k (by have := hf3 k hk; show _; simp; omega)).trans (Below.heap_setCell _ _ _ k (by have := hf3 k hk; simp; omega))) (by simp [World.setCell])
  rw [hX]
  have hP3 : PoL L3 [newV 5 0] [] := hP3
  have p1d : X.drew.heap[w.heap.size]? = some (.cells #[.int .u8 0, .int .u8 ow, .int .u16 rt, .bool jl, .int .u64 t0, .int .u64 t1, .int .u64 t2, .int .u64 t3, .int .u64 s0, .int .u64 s1, .int .u64 s2, .int .u64 s3, .slice a1 n1 c1, .slice a2 n2 c2] 43 (0, 0)) := p1
  have p2d : X.drew.heap[w.heap.size + 1]? = some (.cells #[.int .u8 (do' : Nat), .int .u8 0, .int .u64 r0, .int .u64 r1, .int .u64 r2, .int .u64 r3, .slice a3 n3 c3] 45 (0, 0)) := p2
  have hBXd : Below w.heap.size w X.drew := bd hBX
  have h4d : StD X.drew w1.heap.size w1.heap.size A3 L3 [] 1 := h4.below (bd (Below.refl _ _))
  obtain ⟨e1x, f1x⟩ := cells_of_block p1
  obtain ⟨e2x, f2x⟩ := cells_of_block p2
  clear hX e1 f1 e2 f2 e3 g3 e4 g4 q1 q2 q12 q22 q13 q23 hb1 hb2 h2 f3' h3' hA hB hz
  go_region_held2 (fun Z => Z.cell? ⟨w.heap.size, 0, none⟩ = some (.int .u8 0) ∧ Z.cell? ⟨w.heap.size, 1, none⟩ = some (.int .u8 ow) ∧ Z.cell? ⟨w.heap.size, 2, none⟩ = some (.int .u16 rt) ∧ Z.cell? ⟨w.heap.size, 3, none⟩ = some (.bool jl) ∧ Z.cell? ⟨w.heap.size, 4, none⟩ = some (.int .u64 t0) ∧ Z.cell? ⟨w.heap.size, 5, none⟩ = some (.int .u64 t1) ∧ Z.cell? ⟨w.heap.size, 6, none⟩ = some (.int .u64 t2) ∧ Z.cell? ⟨w.heap.size, 7, none⟩ = some (.int .u64 t3) ∧ Z.cell? ⟨w.heap.size, 8, none⟩ = some (.int .u64 s0) ∧ Z.cell? ⟨w.heap.size, 9, none⟩ = some (.int .u64 s1) ∧ Z.cell? ⟨w.heap.size, 10, none⟩ = some (.int .u64 s2) ∧ Z.cell? ⟨w.heap.size, 11, none⟩ = some (.int .u64 s3) ∧ Z.cell? ⟨w.heap.size, 12, none⟩ = some (.slice a1 n1 c1) ∧ Z.cell? ⟨w.heap.size, 13, none⟩ = some (.slice a2 n2 c2) ∧ Z.cell? ⟨w.heap.size + 1, 0, none⟩ = some (.int .u8 (do' : Nat)) ∧ Z.cell? ⟨w.heap.size + 1, 1, none⟩ = some (.int .u8 0) ∧ Z.cell? ⟨w.heap.size + 1, 2, none⟩ = some (.int .u64 r0) ∧ Z.cell? ⟨w.heap.size + 1, 3, none⟩ = some (.int .u64 r1) ∧ Z.cell? ⟨w.heap.size + 1, 4, none⟩ = some (.int .u64 r2) ∧ Z.cell? ⟨w.heap.size + 1, 5, none⟩ = some (.int .u64 r3) ∧ Z.cell? ⟨w.heap.size + 1, 6, none⟩ = some (.slice a3 n3 c3)) (first | (with_reducible assumption) | (go_simp)) (first
    | (go_at_call 16; with_reducible refine (hSV.out w1.heap.size X.drew A3 L3 hBXd h4d hP3).mono ?_; rintro e w4 ⟨rfl, A4, L4, h5, hP4, f4⟩; have p14 := fr_blk f4 (fun k hk => h4d.foot k hk) (by omega) p1d; have p24 := fr_blk f4 (fun k hk => h4d.foot k hk) z1 p2d; have hB4 := Fr.out hBXd f4 (fun k hk => by have := (h4d.foot k hk).1; omega); obtain ⟨e4x, f4x⟩ := cells_of_block p14; obtain ⟨e5x, f5x⟩ := cells_of_block p24)
    | (go_at_call 17; with_reducible refine (hSD.out w1.heap.size w4 A4 L4 hB4 h5 hP4).mono ?_; rintro e w5 ⟨rfl, A5, L5, h6, hP5, f5⟩; have p15 := fr_blk f5 (fun k hk => h5.foot k hk) (by omega) p14; have p25 := fr_blk f5 (fun k hk => h5.foot k hk) z1 p24; have hB5 := Fr.out hB4 f5 (fun k hk => by have := (h5.foot k hk).1; omega); obtain ⟨e6x, f6x⟩ := cells_of_block p15; obtain ⟨e7x, f7x⟩ := cells_of_block p25))
  have y1 := (Array.getElem?_eq_some_iff.1 p15).1
  have y2 := (Array.getElem?_eq_some_iff.1 p25).1
  clear e1x f1x e2x f2x e4x f4x e5x f5x p1 p2 h4 hBX p1d p2d hBXd h4d p14 p24 h5 f4 f5 hP3 hP4 hSV hSD hf3
  go_wp2_with (first
    | (go_at_call 18; refine (hVl.out _ _ A5 L5 h6 hP5).mono ?_; rintro e w6 ⟨b1, d1, b2, d2, rfl, u1, u2, hb6⟩; have p16 := (hb6.block _ y1).trans p15; have p26 := (hb6.block _ y2).trans p25; obtain ⟨e8x, f8x⟩ := cells_of_block p16; obtain ⟨e9x, f9x⟩ := cells_of_block p26; have y16 := (Array.getElem?_eq_some_iff.1 p16).1; have y26 := (Array.getElem?_eq_some_iff.1 p26).1; have u1 : Hid (IsCoins w6 _ _) := u1; have u2 : Hid (IsCoins w6 _ _) := u2)
    | (go_at_call 19; refine (hGt.out _ _ A5 L5 (h6.below (bt hb6 (by (repeat (first | (with_reducible exact Below.refl _ _) | (with_reducible assumption) | (with_reducible apply bd) | (with_reducible apply ba) | (with_reducible refine bp ?_ (by first | omega | (simp [pad_size]; done) | (simp [pad_size]; omega)) _ _) | (with_reducible refine bs ?_ (by first | omega | (simp [pad_size]; done) | (simp [pad_size]; omega)) _) | (with_reducible refine bt ?_ (by assumption))))))) hP5).mono ?_; rintro e w7 ⟨rfl, hb7⟩; have hb67 : Below w6.heap.size w6 w7 := bt (by (repeat (first | (with_reducible exact Below.refl _ _) | (with_reducible assumption) | (with_reducible apply bd) | (with_reducible apply ba) | (with_reducible refine bp ?_ (by first | omega | (simp [pad_size]; done) | (simp [pad_size]; omega)) _ _) | (with_reducible refine bs ?_ (by first | omega | (simp [pad_size]; done) | (simp [pad_size]; omega)) _) | (with_reducible refine bt ?_ (by assumption))))) hb7; have p17 := (hb67.block _ y16).trans p16; have p27 := (hb67.block _ y26).trans p26; have x67 := (hb7.block w6.heap.size (by simp)).trans (al_at rfl); obtain ⟨e10x, f10x⟩ := cells_of_block p17; obtain ⟨e11x, f11x⟩ := cells_of_block p27; obtain ⟨e12x, f12x⟩ := cells_of_block x67; have y17 := (Array.getElem?_eq_some_iff.1 p17).1; have y27 := (Array.getElem?_eq_some_iff.1 p27).1; have yx := (Array.getElem?_eq_some_iff.1 x67).1; have hB7 := bt hB5 (bt hb6 hb67))
    | (go_at_call 20; refine (same11_any (IsCoins.below u1.out (bt hb67 (by (repeat (first | (with_reducible exact Below.refl _ _) | (with_reducible assumption) | (with_reducible apply bd) | (with_reducible apply ba) | (with_reducible refine bp ?_ (by first | omega | (simp [pad_size]; done) | (simp [pad_size]; omega)) _ _) | (with_reducible refine bs ?_ (by first | omega | (simp [pad_size]; done) | (simp [pad_size]; omega)) _) | (with_reducible refine bt ?_ (by assumption))))))) (IsCoins.below u2.out (bt hb67 (by (repeat (first | (with_reducible exact Below.refl _ _) | (with_reducible assumption) | (with_reducible apply bd) | (with_reducible apply ba) | (with_reducible refine bp ?_ (by first | omega | (simp [pad_size]; done) | (simp [pad_size]; omega)) _ _) | (with_reducible refine bs ?_ (by first | omega | (simp [pad_size]; done) | (simp [pad_size]; omega)) _) | (with_reducible refine bt ?_ (by assumption))))))) (IsCoins.below i1.out (bt hB7 (by (repeat (first | (with_reducible exact Below.refl _ _) | (with_reducible assumption) | (with_reducible apply bd) | (with_reducible apply ba) | (with_reducible refine bp ?_ (by first | omega | (simp [pad_size]; done) | (simp [pad_size]; omega)) _ _) | (with_reducible refine bs ?_ (by first | omega | (simp [pad_size]; done) | (simp [pad_size]; omega)) _) | (with_reducible refine bt ?_ (by assumption))))))) (IsCoins.below i2.out (bt hB7 (by (repeat (first | (with_reducible exact Below.refl _ _) | (with_reducible assumption) | (with_reducible apply bd) | (with_reducible apply ba) | (with_reducible refine bp ?_ (by first | omega | (simp [pad_size]; done) | (simp [pad_size]; omega)) _ _) | (with_reducible refine bs ?_ (by first | omega | (simp [pad_size]; done) | (simp [pad_size]; omega)) _) | (with_reducible refine bt ?_ (by assumption)))))))).mono ?_; rintro e w8 ⟨rfl, hb8⟩; have hb78 : Below w7.heap.size w7 w8 := bt (by (repeat (first | (with_reducible exact Below.refl _ _) | (with_reducible assumption) | (with_reducible apply bd) | (with_reducible apply ba) | (with_reducible refine bp ?_ (by first | omega | (simp [pad_size]; done) | (simp [pad_size]; omega)) _ _) | (with_reducible refine bs ?_ (by first | omega | (simp [pad_size]; done) | (simp [pad_size]; omega)) _) | (with_reducible refine bt ?_ (by assumption))))) hb8; have p18 := (hb78.block _ y17).trans p17; have p28 := (hb78.block _ y27).trans p27; obtain ⟨e13x, f13x⟩ := cells_of_block p18; obtain ⟨e14x, f14x⟩ := cells_of_block p28; obtain ⟨e15x, f15x⟩ := cells_of_block ((hb78.block _ yx).trans x67); have xy8 := (hb8.block w7.heap.size (by simp)).trans (al_at rfl); obtain ⟨e16x, f16x⟩ := cells_of_block xy8)
    
    )
  go_ret
  exact ⟨rfl, bt hB7 hb78⟩
set_option maxRecDepth 20000 in
set_option maxHeartbeats 16000000 in
theorem there_0ok (h3 : ¬ 30 < sum3 n1 n2 n3) (hi : i ≤ 255) (hx : VIn ⟨ow, rt, jl, t0, t1, t2, t3, s0, s1, s2, s3, ix, er⟩) (l1 : CoIn w a1 n1 c1 ix) (l2 : CoIn w a2 n2 c2 er) (hy : DIn ⟨do', 0, r0, r1, r2, r3, jx⟩) (l3 : CoIn w a3 n3 c3 jx) (hm : mayB ow rt ix er = false) (hg1 : do' < 200) (hg2 : rightFrom 0 jx = true) (hg3 : eq4 r0 r1 r2 r3 0 0 0 0 = false) :
    Calls Try.prog 5 #[.agg #[.int .u8 (i : Nat), .int .u8 ow, .int .u16 rt, .bool jl, .int .u64 t0, .int .u64 t1, .int .u64 t2, .int .u64 t3, .int .u64 s0, .int .u64 s1, .int .u64 s2, .int .u64 s3, .slice a1 n1 c1, .slice a2 n2 c2], .agg #[.int .u8 (do' : Nat), .int .u8 (va : Nat), .int .u64 r0, .int .u64 r1, .int .u64 r2, .int .u64 r3, .slice a3 n3 c3]] w fun e w' => e = .returned (.bool true) ∧ Below w.heap.size w w' := by
  unfold sum3 at h3
  have hw := hy.ow
  simp only at hw
  have hSV : Hid (∀ (s : Nat) (X : World) (A : Nat → Prop) (L : List (List Int × List Int)), Below w.heap.size w X → StD X s s A L [] 1 → PoL L [newV 5 0] [] → Calls Try.prog 16 #[.pointer (some ⟨s, 0, none⟩), .agg #[.int .u8 0, .int .u8 ow, .int .u16 rt, .bool jl, .int .u64 t0, .int .u64 t1, .int .u64 t2, .int .u64 t3, .int .u64 s0, .int .u64 s1, .int .u64 s2, .int .u64 s3, .slice a1 n1 c1, .slice a2 n2 c2]] X fun e w' => e = .returned (.int .i64 1) ∧ ∃ A' L', StD w' s s A' L' [] 2 ∧ PoL L' [(newV 5 0)] [] ∧ Fr X w' A A') := fun s X A L hX hS hP => by
    obtain ⟨i1, rfl⟩ := l1
    obtain ⟨i2, rfl⟩ := l2
    refine (setVal_bad hx (i1.below hX) (i2.below hX) _ (.inr hm)).mono ?_
    rintro e w' ⟨rfl, hb⟩
    exact ⟨rfl, A, L, (hS.below hb).up (by omega), hP, Fr.below hb⟩
  have hSD : Hid (∀ (s : Nat) (X : World) (A : Nat → Prop) (L : List (List Int × List Int)), Below w.heap.size w X → StD X s s A L [] 2 → PoL L [(newV 5 0)] [] → Calls Try.prog 17 #[.pointer (some ⟨s, 0, none⟩), .agg #[.int .u8 (do' : Nat), .int .u8 0, .int .u64 r0, .int .u64 r1, .int .u64 r2, .int .u64 r3, .slice a3 n3 c3]] X fun e w' => e = .returned (.int .i64 0) ∧ ∃ A' L', StD w' s s A' L' [] 3 ∧ PoL L' [(newV 5 0)] [⟨do', 0, r0, r1, r2, r3, jx⟩] ∧ Fr X w' A A') := fun s X A L hX hS hP => by
    obtain ⟨rfl, i1, -⟩ := co_small l3 hX hg2
    have e1 : setD [] ⟨do', 0, r0, r1, r2, r3, jx⟩ = [⟨do', 0, r0, r1, r2, r3, jx⟩] := by unfold setD; simp only [hg3]; rfl
    refine (setDg_any hS hP (by omega) hy hg1 hg2 i1).mono ?_
    rintro e w' (⟨-, rfl, A', L', q1, q2, -, q4⟩ | ⟨e2, -⟩)
    · exact ⟨rfl, A', L', q1, by rw [e1] at q2; exact q2, q4⟩
    · simp at e2
  obtain ⟨en3, i3, -⟩ := co_small l3 (Below.refl _ _) hg2
  rw [← en3] at i3
  replace i3 : Hid (IsCoins w _ _) := i3
  have hZr := fun Y => zero11_any r0 r1 r2 r3 Y
  rw [hg3] at hZr
  have hVl : Hid (∀ (s : Nat) (X : World) (A : Nat → Prop) (L : List (List Int × List Int)), StD X s s A L [] 3 → PoL L [(newV 5 0)] [⟨do', 0, r0, r1, r2, r3, jx⟩] → Calls Try.prog 18 #[.pointer (some ⟨s, 0, none⟩), .int .u8 0] X fun e w' => ∃ b1 d1 b2 d2, e = .returned (.tuple #[.agg #[.int .u8 0, .int .u8 5, .int .u16 0, .bool false, .int .u64 0, .int .u64 0, .int .u64 0, .int .u64 0, .int .u64 0, .int .u64 0, .int .u64 0, .int .u64 0, .slice b1 0 d1, .slice b2 0 d2], .bool true]) ∧ IsCoins w' (.slice b1 0 d1) [] ∧ IsCoins w' (.slice b2 0 d2) [] ∧ Below X.heap.size X w') := fun s X A L hS hP => by
    have hl := right_len (hP.vok _ (List.mem_singleton.2 rfl)).ir
    have hl2 := right_len (hP.vok _ (List.mem_singleton.2 rfl)).er
    simp only [newV] at hl hl2
    refine (val_yes (i := 0) hS hP (by omega) rfl).mono ?_
    rintro e w' ⟨b1, d1, b2, d2, rfl, u1, u2, hb⟩
    exact ⟨b1, d1, b2, d2, rfl, own_coins u1 (by omega), own_coins u2 (by omega), hb⟩
  have hGt : Hid (∀ (s : Nat) (X : World) (A : Nat → Prop) (L : List (List Int × List Int)), StD X s s A L [] 3 → PoL L [(newV 5 0)] [⟨do', 0, r0, r1, r2, r3, jx⟩] → Calls Try.prog 19 #[.pointer (some ⟨s, 0, none⟩), .int .u8 (do' : Nat), .int .u8 0] X fun e w' => ∃ e1 f1, e = .returned (.tuple #[.agg #[.int .u8 (do' : Nat), .int .u8 0, .int .u64 r0, .int .u64 r1, .int .u64 r2, .int .u64 r3, .slice e1 n3 f1], .bool true]) ∧ IsCoins w' (.slice e1 n3 f1) jx ∧ Below X.heap.size X w') := fun s X A L hS hP => by
    have hl := right_len (hP.dok _ (List.mem_singleton.2 rfl)).ir
    simp only at hl
    rw [en3]
    refine (getD_any (x := ⟨do', 0, r0, r1, r2, r3, jx⟩) hS hP (by omega) (List.mem_singleton.2 rfl)).mono ?_
    rintro e w' ⟨e1, f1, rfl, u1, hb⟩
    exact ⟨e1, f1, rfl, own_coins u1 (by omega), hb⟩
  have hm0 : mayB 5 0 [] [] = true := by decide
  have hA : (((w.alloc (.cells #[.int .u8 (i : Nat), .int .u8 ow, .int .u16 rt, .bool jl, .int .u64 t0, .int .u64 t1, .int .u64 t2, .int .u64 t3, .int .u64 s0, .int .u64 s1, .int .u64 s2, .int .u64 s3, .slice a1 n1 c1, .slice a2 n2 c2] 43)).alloc (.cells #[.int .u8 (do' : Nat), .int .u8 (va : Nat), .int .u64 r0, .int .u64 r1, .int .u64 r2, .int .u64 r3, .slice a3 n3 c3] 45))).heap[w.heap.size]? = some (.cells #[.int .u8 (i : Nat), .int .u8 ow, .int .u16 rt, .bool jl, .int .u64 t0, .int .u64 t1, .int .u64 t2, .int .u64 t3, .int .u64 s0, .int .u64 s1, .int .u64 s2, .int .u64 s3, .slice a1 n1 c1, .slice a2 n2 c2] 43 (0, 0)) := (al_old (by simp)).trans (al_at rfl)
  have hB : (((w.alloc (.cells #[.int .u8 (i : Nat), .int .u8 ow, .int .u16 rt, .bool jl, .int .u64 t0, .int .u64 t1, .int .u64 t2, .int .u64 t3, .int .u64 s0, .int .u64 s1, .int .u64 s2, .int .u64 s3, .slice a1 n1 c1, .slice a2 n2 c2] 43)).alloc (.cells #[.int .u8 (do' : Nat), .int .u8 (va : Nat), .int .u64 r0, .int .u64 r1, .int .u64 r2, .int .u64 r3, .slice a3 n3 c3] 45))).heap[w.heap.size + 1]? = some (.cells #[.int .u8 (do' : Nat), .int .u8 (va : Nat), .int .u64 r0, .int .u64 r1, .int .u64 r2, .int .u64 r3, .slice a3 n3 c3] 45 (0, 0)) := al_at (by simp)
  have hz : (((w.alloc (.cells #[.int .u8 (i : Nat), .int .u8 ow, .int .u16 rt, .bool jl, .int .u64 t0, .int .u64 t1, .int .u64 t2, .int .u64 t3, .int .u64 s0, .int .u64 s1, .int .u64 s2, .int .u64 s3, .slice a1 n1 c1, .slice a2 n2 c2] 43)).alloc (.cells #[.int .u8 (do' : Nat), .int .u8 (va : Nat), .int .u64 r0, .int .u64 r1, .int .u64 r2, .int .u64 r3, .slice a3 n3 c3] 45))).heap.size = w.heap.size + 1 + 1 := by simp
  have hw8 : IntKind.u8.wrap (0 : Int) = 0 := by decide
  clear hx hy l1 l2 l3 hm hg1 hg2 hg3 hi hw en3
  go_enter Try.func5, Try.ntmps5
  go_upto_region 6 with (first
    | (go_at_call 8; refine (adds_any _).mono ?_; rintro e w1 ⟨rfl, hb1⟩; have q1 := (hb1.block w.heap.size (by omega)).trans hA; have q2 := (hb1.block (w.heap.size + 1) (by omega)).trans hB; obtain ⟨e1, f1⟩ := cells_of_block q1; obtain ⟨e2, f2⟩ := cells_of_block q2; have hB1 : Below w.heap.size w w1 := bt (by (repeat (first | (with_reducible exact Below.refl _ _) | (with_reducible assumption) | (with_reducible apply bd) | (with_reducible apply ba) | (with_reducible refine bp ?_ (by first | omega | (simp [pad_size]; done) | (simp [pad_size]; omega)) _ _) | (with_reducible refine bs ?_ (by first | omega | (simp [pad_size]; done) | (simp [pad_size]; omega)) _) | (with_reducible refine bt ?_ (by assumption))))) hb1; have z1 : w.heap.size + 1 < w1.heap.size := (Array.getElem?_eq_some_iff.1 q2).1)
    | (go_at_call 10; refine (stdNew _).mono ?_; rintro e w2 ⟨rfl, h2, hb2⟩; have hB2 := bt hB1 hb2; have q12 := (hb2.block w.heap.size (by omega)).trans q1; have q22 := (hb2.block (w.heap.size + 1) z1).trans q2)
    | (go_at_call 15; (refine (add_any h2 PoL.new (by omega) (by omega) (by omega) hm0).mono ?_; (rintro e w3 (⟨-, rfl, A3, L3, h3', hP3, -, f3'⟩ | ⟨e1, -⟩); rotate_left; exact absurd e1 (by simp)); have q13 := fr_blk f3' h2.foot (by omega) q12; have q23 := fr_blk f3' h2.foot z1 q22; obtain ⟨e3, g3⟩ := cells_of_block q13; obtain ⟨e4, g4⟩ := cells_of_block q23; have hB3 := Fr.out hB2 f3' (fun k hk => by have := (h2.foot k hk).1; omega))))
  obtain ⟨X, hX⟩ : ∃ X, (w3.setCell ⟨w.heap.size, 0, none⟩ (.int .u8 0)).setCell ⟨w.heap.size + 1, 1, none⟩ (.int .u8 0) = X := ⟨_, rfl⟩
  have hBX : Below w.heap.size w X := by rw [← hX]; exact bs (bs hB3 (Nat.le_refl _) _) (Nat.le_succ _) _
  have p1 : X.heap[w.heap.size]? = some (.cells #[.int .u8 0, .int .u8 ow, .int .u16 rt, .bool jl, .int .u64 t0, .int .u64 t1, .int .u64 t2, .int .u64 t3, .int .u64 s0, .int .u64 s1, .int .u64 s2, .int .u64 s3, .slice a1 n1 c1, .slice a2 n2 c2] 43 (0, 0)) := by
    rw [← hX]
    exact (block_set_other _ ((block_set _ q13).trans (by first | rfl | simp)) (by omega))
  have p2 : X.heap[w.heap.size + 1]? = some (.cells #[.int .u8 (do' : Nat), .int .u8 0, .int .u64 r0, .int .u64 r1, .int .u64 r2, .int .u64 r3, .slice a3 n3 c3] 45 (0, 0)) := by
    rw [← hX]
    exact (block_set _ (block_set_other _ q23 (by omega))).trans (by first | rfl | simp)
  have hf3 := h3'.foot
  have h4 : StD X w1.heap.size w1.heap.size A3 L3 [] 1 := by
    rw [← hX]
    exact h3'.kept (fun k hk => (Below.heap_setCell _ _ _ k (by have := hf3 k hk; show _; simp; omega)).trans (Below.heap_setCell _ _ _ k (by have := hf3 k hk; simp; omega))) (by simp [World.setCell])
  rw [hX]
  have hP3 : PoL L3 [newV 5 0] [] := hP3
  have p1d : X.drew.heap[w.heap.size]? = some (.cells #[.int .u8 0, .int .u8 ow, .int .u16 rt, .bool jl, .int .u64 t0, .int .u64 t1, .int .u64 t2, .int .u64 t3, .int .u64 s0, .int .u64 s1, .int .u64 s2, .int .u64 s3, .slice a1 n1 c1, .slice a2 n2 c2] 43 (0, 0)) := p1
  have p2d : X.drew.heap[w.heap.size + 1]? = some (.cells #[.int .u8 (do' : Nat), .int .u8 0, .int .u64 r0, .int .u64 r1, .int .u64 r2, .int .u64 r3, .slice a3 n3 c3] 45 (0, 0)) := p2
  have hBXd : Below w.heap.size w X.drew := bd hBX
  have h4d : StD X.drew w1.heap.size w1.heap.size A3 L3 [] 1 := h4.below (bd (Below.refl _ _))
  obtain ⟨e1x, f1x⟩ := cells_of_block p1
  obtain ⟨e2x, f2x⟩ := cells_of_block p2
  clear hX e1 f1 e2 f2 e3 g3 e4 g4 q1 q2 q12 q22 q13 q23 hb1 hb2 h2 f3' h3' hA hB hz
  go_region_held2 (fun Z => Z.cell? ⟨w.heap.size, 0, none⟩ = some (.int .u8 0) ∧ Z.cell? ⟨w.heap.size, 1, none⟩ = some (.int .u8 ow) ∧ Z.cell? ⟨w.heap.size, 2, none⟩ = some (.int .u16 rt) ∧ Z.cell? ⟨w.heap.size, 3, none⟩ = some (.bool jl) ∧ Z.cell? ⟨w.heap.size, 4, none⟩ = some (.int .u64 t0) ∧ Z.cell? ⟨w.heap.size, 5, none⟩ = some (.int .u64 t1) ∧ Z.cell? ⟨w.heap.size, 6, none⟩ = some (.int .u64 t2) ∧ Z.cell? ⟨w.heap.size, 7, none⟩ = some (.int .u64 t3) ∧ Z.cell? ⟨w.heap.size, 8, none⟩ = some (.int .u64 s0) ∧ Z.cell? ⟨w.heap.size, 9, none⟩ = some (.int .u64 s1) ∧ Z.cell? ⟨w.heap.size, 10, none⟩ = some (.int .u64 s2) ∧ Z.cell? ⟨w.heap.size, 11, none⟩ = some (.int .u64 s3) ∧ Z.cell? ⟨w.heap.size, 12, none⟩ = some (.slice a1 n1 c1) ∧ Z.cell? ⟨w.heap.size, 13, none⟩ = some (.slice a2 n2 c2) ∧ Z.cell? ⟨w.heap.size + 1, 0, none⟩ = some (.int .u8 (do' : Nat)) ∧ Z.cell? ⟨w.heap.size + 1, 1, none⟩ = some (.int .u8 0) ∧ Z.cell? ⟨w.heap.size + 1, 2, none⟩ = some (.int .u64 r0) ∧ Z.cell? ⟨w.heap.size + 1, 3, none⟩ = some (.int .u64 r1) ∧ Z.cell? ⟨w.heap.size + 1, 4, none⟩ = some (.int .u64 r2) ∧ Z.cell? ⟨w.heap.size + 1, 5, none⟩ = some (.int .u64 r3) ∧ Z.cell? ⟨w.heap.size + 1, 6, none⟩ = some (.slice a3 n3 c3)) (first | (with_reducible assumption) | (go_simp)) (first
    | (go_at_call 16; with_reducible refine (hSV.out w1.heap.size X.drew A3 L3 hBXd h4d hP3).mono ?_; rintro e w4 ⟨rfl, A4, L4, h5, hP4, f4⟩; have p14 := fr_blk f4 (fun k hk => h4d.foot k hk) (by omega) p1d; have p24 := fr_blk f4 (fun k hk => h4d.foot k hk) z1 p2d; have hB4 := Fr.out hBXd f4 (fun k hk => by have := (h4d.foot k hk).1; omega); obtain ⟨e4x, f4x⟩ := cells_of_block p14; obtain ⟨e5x, f5x⟩ := cells_of_block p24)
    | (go_at_call 17; with_reducible refine (hSD.out w1.heap.size w4 A4 L4 hB4 h5 hP4).mono ?_; rintro e w5 ⟨rfl, A5, L5, h6, hP5, f5⟩; have p15 := fr_blk f5 (fun k hk => h5.foot k hk) (by omega) p14; have p25 := fr_blk f5 (fun k hk => h5.foot k hk) z1 p24; have hB5 := Fr.out hB4 f5 (fun k hk => by have := (h5.foot k hk).1; omega); obtain ⟨e6x, f6x⟩ := cells_of_block p15; obtain ⟨e7x, f7x⟩ := cells_of_block p25))
  have y1 := (Array.getElem?_eq_some_iff.1 p15).1
  have y2 := (Array.getElem?_eq_some_iff.1 p25).1
  clear e1x f1x e2x f2x e4x f4x e5x f5x p1 p2 h4 hBX p1d p2d hBXd h4d p14 p24 h5 f4 f5 hP3 hP4 hSV hSD hf3
  go_wp2_with (first
    | (go_at_call 18; refine (hVl.out _ _ A5 L5 h6 hP5).mono ?_; rintro e w6 ⟨b1, d1, b2, d2, rfl, u1, u2, hb6⟩; have p16 := (hb6.block _ y1).trans p15; have p26 := (hb6.block _ y2).trans p25; obtain ⟨e8x, f8x⟩ := cells_of_block p16; obtain ⟨e9x, f9x⟩ := cells_of_block p26; have y16 := (Array.getElem?_eq_some_iff.1 p16).1; have y26 := (Array.getElem?_eq_some_iff.1 p26).1; have u1 : Hid (IsCoins w6 _ _) := u1; have u2 : Hid (IsCoins w6 _ _) := u2)
    | (go_at_call 19; refine (hGt.out _ _ A5 L5 (h6.below (bt hb6 (by (repeat (first | (with_reducible exact Below.refl _ _) | (with_reducible assumption) | (with_reducible apply bd) | (with_reducible apply ba) | (with_reducible refine bp ?_ (by first | omega | (simp [pad_size]; done) | (simp [pad_size]; omega)) _ _) | (with_reducible refine bs ?_ (by first | omega | (simp [pad_size]; done) | (simp [pad_size]; omega)) _) | (with_reducible refine bt ?_ (by assumption))))))) hP5).mono ?_; rintro e w7 ⟨g1, g2, rfl, v1, hb7⟩; have v1 : Hid (IsCoins w7 _ _) := v1; have hb67 : Below w6.heap.size w6 w7 := bt (by (repeat (first | (with_reducible exact Below.refl _ _) | (with_reducible assumption) | (with_reducible apply bd) | (with_reducible apply ba) | (with_reducible refine bp ?_ (by first | omega | (simp [pad_size]; done) | (simp [pad_size]; omega)) _ _) | (with_reducible refine bs ?_ (by first | omega | (simp [pad_size]; done) | (simp [pad_size]; omega)) _) | (with_reducible refine bt ?_ (by assumption))))) hb7; have p17 := (hb67.block _ y16).trans p16; have p27 := (hb67.block _ y26).trans p26; have x67 := (hb7.block w6.heap.size (by simp)).trans (al_at rfl); obtain ⟨e10x, f10x⟩ := cells_of_block p17; obtain ⟨e11x, f11x⟩ := cells_of_block p27; obtain ⟨e12x, f12x⟩ := cells_of_block x67; have y17 := (Array.getElem?_eq_some_iff.1 p17).1; have y27 := (Array.getElem?_eq_some_iff.1 p27).1; have yx := (Array.getElem?_eq_some_iff.1 x67).1; have hB7 := bt hB5 (bt hb6 hb67))
    
    | (go_at_call 21; refine (hZr _).mono ?_; rintro e w9 ⟨rfl, hb9⟩; have hb79 : Below w7.heap.size w7 w9 := bt (by (repeat (first | (with_reducible exact Below.refl _ _) | (with_reducible assumption) | (with_reducible apply bd) | (with_reducible apply ba) | (with_reducible refine bp ?_ (by first | omega | (simp [pad_size]; done) | (simp [pad_size]; omega)) _ _) | (with_reducible refine bs ?_ (by first | omega | (simp [pad_size]; done) | (simp [pad_size]; omega)) _) | (with_reducible refine bt ?_ (by assumption))))) hb9; obtain ⟨e17x, f17x⟩ := cells_of_block ((hb79.block _ (Array.getElem?_eq_some_iff.1 p27).1).trans p27); (try (have xy9 := (hb9.block w7.heap.size (by simp)).trans (al_at rfl); obtain ⟨e18x, f18x⟩ := cells_of_block xy9)))
    | (go_at_call 14; refine (alike11_any (IsCoins.below v1.out (bt hb79 (by (repeat (first | (with_reducible exact Below.refl _ _) | (with_reducible assumption) | (with_reducible apply bd) | (with_reducible apply ba) | (with_reducible refine bp ?_ (by first | omega | (simp [pad_size]; done) | (simp [pad_size]; omega)) _ _) | (with_reducible refine bs ?_ (by first | omega | (simp [pad_size]; done) | (simp [pad_size]; omega)) _) | (with_reducible refine bt ?_ (by assumption))))))) (IsCoins.below i3.out (bt (bt hB7 hb79) (by (repeat (first | (with_reducible exact Below.refl _ _) | (with_reducible assumption) | (with_reducible apply bd) | (with_reducible apply ba) | (with_reducible refine bp ?_ (by first | omega | (simp [pad_size]; done) | (simp [pad_size]; omega)) _ _) | (with_reducible refine bs ?_ (by first | omega | (simp [pad_size]; done) | (simp [pad_size]; omega)) _) | (with_reducible refine bt ?_ (by assumption)))))))).mono ?_; rintro e w10 ⟨rfl, hb10⟩))
  go_ret
  exact ⟨rfl, bt (bt hB7 hb79) hb10⟩
set_option maxRecDepth 20000 in
set_option maxHeartbeats 16000000 in
theorem there_0zero (h3 : ¬ 30 < sum3 n1 n2 n3) (hi : i ≤ 255) (hx : VIn ⟨ow, rt, jl, t0, t1, t2, t3, s0, s1, s2, s3, ix, er⟩) (l1 : CoIn w a1 n1 c1 ix) (l2 : CoIn w a2 n2 c2 er) (hy : DIn ⟨do', 0, r0, r1, r2, r3, jx⟩) (l3 : CoIn w a3 n3 c3 jx) (hm : mayB ow rt ix er = false) (hg1 : do' < 200) (hg2 : rightFrom 0 jx = true) (hg3 : eq4 r0 r1 r2 r3 0 0 0 0 = true) :
    Calls Try.prog 5 #[.agg #[.int .u8 (i : Nat), .int .u8 ow, .int .u16 rt, .bool jl, .int .u64 t0, .int .u64 t1, .int .u64 t2, .int .u64 t3, .int .u64 s0, .int .u64 s1, .int .u64 s2, .int .u64 s3, .slice a1 n1 c1, .slice a2 n2 c2], .agg #[.int .u8 (do' : Nat), .int .u8 (va : Nat), .int .u64 r0, .int .u64 r1, .int .u64 r2, .int .u64 r3, .slice a3 n3 c3]] w fun e w' => e = .returned (.bool true) ∧ Below w.heap.size w w' := by
  unfold sum3 at h3
  have hw := hy.ow
  simp only at hw
  have hSV : Hid (∀ (s : Nat) (X : World) (A : Nat → Prop) (L : List (List Int × List Int)), Below w.heap.size w X → StD X s s A L [] 1 → PoL L [newV 5 0] [] → Calls Try.prog 16 #[.pointer (some ⟨s, 0, none⟩), .agg #[.int .u8 0, .int .u8 ow, .int .u16 rt, .bool jl, .int .u64 t0, .int .u64 t1, .int .u64 t2, .int .u64 t3, .int .u64 s0, .int .u64 s1, .int .u64 s2, .int .u64 s3, .slice a1 n1 c1, .slice a2 n2 c2]] X fun e w' => e = .returned (.int .i64 1) ∧ ∃ A' L', StD w' s s A' L' [] 2 ∧ PoL L' [(newV 5 0)] [] ∧ Fr X w' A A') := fun s X A L hX hS hP => by
    obtain ⟨i1, rfl⟩ := l1
    obtain ⟨i2, rfl⟩ := l2
    refine (setVal_bad hx (i1.below hX) (i2.below hX) _ (.inr hm)).mono ?_
    rintro e w' ⟨rfl, hb⟩
    exact ⟨rfl, A, L, (hS.below hb).up (by omega), hP, Fr.below hb⟩
  have hSD : Hid (∀ (s : Nat) (X : World) (A : Nat → Prop) (L : List (List Int × List Int)), Below w.heap.size w X → StD X s s A L [] 2 → PoL L [(newV 5 0)] [] → Calls Try.prog 17 #[.pointer (some ⟨s, 0, none⟩), .agg #[.int .u8 (do' : Nat), .int .u8 0, .int .u64 r0, .int .u64 r1, .int .u64 r2, .int .u64 r3, .slice a3 n3 c3]] X fun e w' => e = .returned (.int .i64 0) ∧ ∃ A' L', StD w' s s A' L' [] 3 ∧ PoL L' [(newV 5 0)] [] ∧ Fr X w' A A') := fun s X A L hX hS hP => by
    obtain ⟨rfl, i1, -⟩ := co_small l3 hX hg2
    have e1 : setD [] ⟨do', 0, r0, r1, r2, r3, jx⟩ = [] := by unfold setD; simp only [hg3]; rfl
    refine (setDg_any hS hP (by omega) hy hg1 hg2 i1).mono ?_
    rintro e w' (⟨-, rfl, A', L', q1, q2, -, q4⟩ | ⟨e2, -⟩)
    · exact ⟨rfl, A', L', q1, by rw [e1] at q2; exact q2, q4⟩
    · simp at e2
  have hZr := fun Y => zero11_any r0 r1 r2 r3 Y
  rw [hg3] at hZr
  have hVl : Hid (∀ (s : Nat) (X : World) (A : Nat → Prop) (L : List (List Int × List Int)), StD X s s A L [] 3 → PoL L [(newV 5 0)] [] → Calls Try.prog 18 #[.pointer (some ⟨s, 0, none⟩), .int .u8 0] X fun e w' => ∃ b1 d1 b2 d2, e = .returned (.tuple #[.agg #[.int .u8 0, .int .u8 5, .int .u16 0, .bool false, .int .u64 0, .int .u64 0, .int .u64 0, .int .u64 0, .int .u64 0, .int .u64 0, .int .u64 0, .int .u64 0, .slice b1 0 d1, .slice b2 0 d2], .bool true]) ∧ IsCoins w' (.slice b1 0 d1) [] ∧ IsCoins w' (.slice b2 0 d2) [] ∧ Below X.heap.size X w') := fun s X A L hS hP => by
    have hl := right_len (hP.vok _ (List.mem_singleton.2 rfl)).ir
    have hl2 := right_len (hP.vok _ (List.mem_singleton.2 rfl)).er
    simp only [newV] at hl hl2
    refine (val_yes (i := 0) hS hP (by omega) rfl).mono ?_
    rintro e w' ⟨b1, d1, b2, d2, rfl, u1, u2, hb⟩
    exact ⟨b1, d1, b2, d2, rfl, own_coins u1 (by omega), own_coins u2 (by omega), hb⟩
  have hGt : Hid (∀ (s : Nat) (X : World) (A : Nat → Prop) (L : List (List Int × List Int)), StD X s s A L [] 3 → PoL L [(newV 5 0)] [] → Calls Try.prog 19 #[.pointer (some ⟨s, 0, none⟩), .int .u8 (do' : Nat), .int .u8 0] X fun e w' => e = .returned (.tuple #[.agg #[.int .u8 0, .int .u8 0, .int .u64 0, .int .u64 0, .int .u64 0, .int .u64 0, .slice none 0 0], .bool false]) ∧ Below X.heap.size X w') := fun s X A L hS hP => by
    exact getD_not (a := do') (b := 0) hS hP (by omega) hw (by decide) (by simp)
  have hm0 : mayB 5 0 [] [] = true := by decide
  have hA : (((w.alloc (.cells #[.int .u8 (i : Nat), .int .u8 ow, .int .u16 rt, .bool jl, .int .u64 t0, .int .u64 t1, .int .u64 t2, .int .u64 t3, .int .u64 s0, .int .u64 s1, .int .u64 s2, .int .u64 s3, .slice a1 n1 c1, .slice a2 n2 c2] 43)).alloc (.cells #[.int .u8 (do' : Nat), .int .u8 (va : Nat), .int .u64 r0, .int .u64 r1, .int .u64 r2, .int .u64 r3, .slice a3 n3 c3] 45))).heap[w.heap.size]? = some (.cells #[.int .u8 (i : Nat), .int .u8 ow, .int .u16 rt, .bool jl, .int .u64 t0, .int .u64 t1, .int .u64 t2, .int .u64 t3, .int .u64 s0, .int .u64 s1, .int .u64 s2, .int .u64 s3, .slice a1 n1 c1, .slice a2 n2 c2] 43 (0, 0)) := (al_old (by simp)).trans (al_at rfl)
  have hB : (((w.alloc (.cells #[.int .u8 (i : Nat), .int .u8 ow, .int .u16 rt, .bool jl, .int .u64 t0, .int .u64 t1, .int .u64 t2, .int .u64 t3, .int .u64 s0, .int .u64 s1, .int .u64 s2, .int .u64 s3, .slice a1 n1 c1, .slice a2 n2 c2] 43)).alloc (.cells #[.int .u8 (do' : Nat), .int .u8 (va : Nat), .int .u64 r0, .int .u64 r1, .int .u64 r2, .int .u64 r3, .slice a3 n3 c3] 45))).heap[w.heap.size + 1]? = some (.cells #[.int .u8 (do' : Nat), .int .u8 (va : Nat), .int .u64 r0, .int .u64 r1, .int .u64 r2, .int .u64 r3, .slice a3 n3 c3] 45 (0, 0)) := al_at (by simp)
  have hz : (((w.alloc (.cells #[.int .u8 (i : Nat), .int .u8 ow, .int .u16 rt, .bool jl, .int .u64 t0, .int .u64 t1, .int .u64 t2, .int .u64 t3, .int .u64 s0, .int .u64 s1, .int .u64 s2, .int .u64 s3, .slice a1 n1 c1, .slice a2 n2 c2] 43)).alloc (.cells #[.int .u8 (do' : Nat), .int .u8 (va : Nat), .int .u64 r0, .int .u64 r1, .int .u64 r2, .int .u64 r3, .slice a3 n3 c3] 45))).heap.size = w.heap.size + 1 + 1 := by simp
  have hw8 : IntKind.u8.wrap (0 : Int) = 0 := by decide
  clear hx hy l1 l2 l3 hm hg1 hg2 hg3 hi hw 
  go_enter Try.func5, Try.ntmps5
  go_upto_region 6 with (first
    | (go_at_call 8; refine (adds_any _).mono ?_; rintro e w1 ⟨rfl, hb1⟩; have q1 := (hb1.block w.heap.size (by omega)).trans hA; have q2 := (hb1.block (w.heap.size + 1) (by omega)).trans hB; obtain ⟨e1, f1⟩ := cells_of_block q1; obtain ⟨e2, f2⟩ := cells_of_block q2; have hB1 : Below w.heap.size w w1 := bt (by (repeat (first | (with_reducible exact Below.refl _ _) | (with_reducible assumption) | (with_reducible apply bd) | (with_reducible apply ba) | (with_reducible refine bp ?_ (by first | omega | (simp [pad_size]; done) | (simp [pad_size]; omega)) _ _) | (with_reducible refine bs ?_ (by first | omega | (simp [pad_size]; done) | (simp [pad_size]; omega)) _) | (with_reducible refine bt ?_ (by assumption))))) hb1; have z1 : w.heap.size + 1 < w1.heap.size := (Array.getElem?_eq_some_iff.1 q2).1)
    | (go_at_call 10; refine (stdNew _).mono ?_; rintro e w2 ⟨rfl, h2, hb2⟩; have hB2 := bt hB1 hb2; have q12 := (hb2.block w.heap.size (by omega)).trans q1; have q22 := (hb2.block (w.heap.size + 1) z1).trans q2)
    | (go_at_call 15; (refine (add_any h2 PoL.new (by omega) (by omega) (by omega) hm0).mono ?_; (rintro e w3 (⟨-, rfl, A3, L3, h3', hP3, -, f3'⟩ | ⟨e1, -⟩); rotate_left; exact absurd e1 (by simp)); have q13 := fr_blk f3' h2.foot (by omega) q12; have q23 := fr_blk f3' h2.foot z1 q22; obtain ⟨e3, g3⟩ := cells_of_block q13; obtain ⟨e4, g4⟩ := cells_of_block q23; have hB3 := Fr.out hB2 f3' (fun k hk => by have := (h2.foot k hk).1; omega))))
  obtain ⟨X, hX⟩ : ∃ X, (w3.setCell ⟨w.heap.size, 0, none⟩ (.int .u8 0)).setCell ⟨w.heap.size + 1, 1, none⟩ (.int .u8 0) = X := ⟨_, rfl⟩
  have hBX : Below w.heap.size w X := by rw [← hX]; exact bs (bs hB3 (Nat.le_refl _) _) (Nat.le_succ _) _
  have p1 : X.heap[w.heap.size]? = some (.cells #[.int .u8 0, .int .u8 ow, .int .u16 rt, .bool jl, .int .u64 t0, .int .u64 t1, .int .u64 t2, .int .u64 t3, .int .u64 s0, .int .u64 s1, .int .u64 s2, .int .u64 s3, .slice a1 n1 c1, .slice a2 n2 c2] 43 (0, 0)) := by
    rw [← hX]
    exact (block_set_other _ ((block_set _ q13).trans (by first | rfl | simp)) (by omega))
  have p2 : X.heap[w.heap.size + 1]? = some (.cells #[.int .u8 (do' : Nat), .int .u8 0, .int .u64 r0, .int .u64 r1, .int .u64 r2, .int .u64 r3, .slice a3 n3 c3] 45 (0, 0)) := by
    rw [← hX]
    exact (block_set _ (block_set_other _ q23 (by omega))).trans (by first | rfl | simp)
  have hf3 := h3'.foot
  have h4 : StD X w1.heap.size w1.heap.size A3 L3 [] 1 := by
    rw [← hX]
    exact h3'.kept (fun k hk => (Below.heap_setCell _ _ _ k (by have := hf3 k hk; show _; simp; omega)).trans (Below.heap_setCell _ _ _ k (by have := hf3 k hk; simp; omega))) (by simp [World.setCell])
  rw [hX]
  have hP3 : PoL L3 [newV 5 0] [] := hP3
  have p1d : X.drew.heap[w.heap.size]? = some (.cells #[.int .u8 0, .int .u8 ow, .int .u16 rt, .bool jl, .int .u64 t0, .int .u64 t1, .int .u64 t2, .int .u64 t3, .int .u64 s0, .int .u64 s1, .int .u64 s2, .int .u64 s3, .slice a1 n1 c1, .slice a2 n2 c2] 43 (0, 0)) := p1
  have p2d : X.drew.heap[w.heap.size + 1]? = some (.cells #[.int .u8 (do' : Nat), .int .u8 0, .int .u64 r0, .int .u64 r1, .int .u64 r2, .int .u64 r3, .slice a3 n3 c3] 45 (0, 0)) := p2
  have hBXd : Below w.heap.size w X.drew := bd hBX
  have h4d : StD X.drew w1.heap.size w1.heap.size A3 L3 [] 1 := h4.below (bd (Below.refl _ _))
  obtain ⟨e1x, f1x⟩ := cells_of_block p1
  obtain ⟨e2x, f2x⟩ := cells_of_block p2
  clear hX e1 f1 e2 f2 e3 g3 e4 g4 q1 q2 q12 q22 q13 q23 hb1 hb2 h2 f3' h3' hA hB hz
  go_region_held2 (fun Z => Z.cell? ⟨w.heap.size, 0, none⟩ = some (.int .u8 0) ∧ Z.cell? ⟨w.heap.size, 1, none⟩ = some (.int .u8 ow) ∧ Z.cell? ⟨w.heap.size, 2, none⟩ = some (.int .u16 rt) ∧ Z.cell? ⟨w.heap.size, 3, none⟩ = some (.bool jl) ∧ Z.cell? ⟨w.heap.size, 4, none⟩ = some (.int .u64 t0) ∧ Z.cell? ⟨w.heap.size, 5, none⟩ = some (.int .u64 t1) ∧ Z.cell? ⟨w.heap.size, 6, none⟩ = some (.int .u64 t2) ∧ Z.cell? ⟨w.heap.size, 7, none⟩ = some (.int .u64 t3) ∧ Z.cell? ⟨w.heap.size, 8, none⟩ = some (.int .u64 s0) ∧ Z.cell? ⟨w.heap.size, 9, none⟩ = some (.int .u64 s1) ∧ Z.cell? ⟨w.heap.size, 10, none⟩ = some (.int .u64 s2) ∧ Z.cell? ⟨w.heap.size, 11, none⟩ = some (.int .u64 s3) ∧ Z.cell? ⟨w.heap.size, 12, none⟩ = some (.slice a1 n1 c1) ∧ Z.cell? ⟨w.heap.size, 13, none⟩ = some (.slice a2 n2 c2) ∧ Z.cell? ⟨w.heap.size + 1, 0, none⟩ = some (.int .u8 (do' : Nat)) ∧ Z.cell? ⟨w.heap.size + 1, 1, none⟩ = some (.int .u8 0) ∧ Z.cell? ⟨w.heap.size + 1, 2, none⟩ = some (.int .u64 r0) ∧ Z.cell? ⟨w.heap.size + 1, 3, none⟩ = some (.int .u64 r1) ∧ Z.cell? ⟨w.heap.size + 1, 4, none⟩ = some (.int .u64 r2) ∧ Z.cell? ⟨w.heap.size + 1, 5, none⟩ = some (.int .u64 r3) ∧ Z.cell? ⟨w.heap.size + 1, 6, none⟩ = some (.slice a3 n3 c3)) (first | (with_reducible assumption) | (go_simp)) (first
    | (go_at_call 16; with_reducible refine (hSV.out w1.heap.size X.drew A3 L3 hBXd h4d hP3).mono ?_; rintro e w4 ⟨rfl, A4, L4, h5, hP4, f4⟩; have p14 := fr_blk f4 (fun k hk => h4d.foot k hk) (by omega) p1d; have p24 := fr_blk f4 (fun k hk => h4d.foot k hk) z1 p2d; have hB4 := Fr.out hBXd f4 (fun k hk => by have := (h4d.foot k hk).1; omega); obtain ⟨e4x, f4x⟩ := cells_of_block p14; obtain ⟨e5x, f5x⟩ := cells_of_block p24)
    | (go_at_call 17; with_reducible refine (hSD.out w1.heap.size w4 A4 L4 hB4 h5 hP4).mono ?_; rintro e w5 ⟨rfl, A5, L5, h6, hP5, f5⟩; have p15 := fr_blk f5 (fun k hk => h5.foot k hk) (by omega) p14; have p25 := fr_blk f5 (fun k hk => h5.foot k hk) z1 p24; have hB5 := Fr.out hB4 f5 (fun k hk => by have := (h5.foot k hk).1; omega); obtain ⟨e6x, f6x⟩ := cells_of_block p15; obtain ⟨e7x, f7x⟩ := cells_of_block p25))
  have y1 := (Array.getElem?_eq_some_iff.1 p15).1
  have y2 := (Array.getElem?_eq_some_iff.1 p25).1
  clear e1x f1x e2x f2x e4x f4x e5x f5x p1 p2 h4 hBX p1d p2d hBXd h4d p14 p24 h5 f4 f5 hP3 hP4 hSV hSD hf3
  go_wp2_with (first
    | (go_at_call 18; refine (hVl.out _ _ A5 L5 h6 hP5).mono ?_; rintro e w6 ⟨b1, d1, b2, d2, rfl, u1, u2, hb6⟩; have p16 := (hb6.block _ y1).trans p15; have p26 := (hb6.block _ y2).trans p25; obtain ⟨e8x, f8x⟩ := cells_of_block p16; obtain ⟨e9x, f9x⟩ := cells_of_block p26; have y16 := (Array.getElem?_eq_some_iff.1 p16).1; have y26 := (Array.getElem?_eq_some_iff.1 p26).1; have u1 : Hid (IsCoins w6 _ _) := u1; have u2 : Hid (IsCoins w6 _ _) := u2)
    | (go_at_call 19; refine (hGt.out _ _ A5 L5 (h6.below (bt hb6 (by (repeat (first | (with_reducible exact Below.refl _ _) | (with_reducible assumption) | (with_reducible apply bd) | (with_reducible apply ba) | (with_reducible refine bp ?_ (by first | omega | (simp [pad_size]; done) | (simp [pad_size]; omega)) _ _) | (with_reducible refine bs ?_ (by first | omega | (simp [pad_size]; done) | (simp [pad_size]; omega)) _) | (with_reducible refine bt ?_ (by assumption))))))) hP5).mono ?_; rintro e w7 ⟨rfl, hb7⟩; have hb67 : Below w6.heap.size w6 w7 := bt (by (repeat (first | (with_reducible exact Below.refl _ _) | (with_reducible assumption) | (with_reducible apply bd) | (with_reducible apply ba) | (with_reducible refine bp ?_ (by first | omega | (simp [pad_size]; done) | (simp [pad_size]; omega)) _ _) | (with_reducible refine bs ?_ (by first | omega | (simp [pad_size]; done) | (simp [pad_size]; omega)) _) | (with_reducible refine bt ?_ (by assumption))))) hb7; have p17 := (hb67.block _ y16).trans p16; have p27 := (hb67.block _ y26).trans p26; have x67 := (hb7.block w6.heap.size (by simp)).trans (al_at rfl); obtain ⟨e10x, f10x⟩ := cells_of_block p17; obtain ⟨e11x, f11x⟩ := cells_of_block p27; obtain ⟨e12x, f12x⟩ := cells_of_block x67; have y17 := (Array.getElem?_eq_some_iff.1 p17).1; have y27 := (Array.getElem?_eq_some_iff.1 p27).1; have yx := (Array.getElem?_eq_some_iff.1 x67).1; have hB7 := bt hB5 (bt hb6 hb67))
    
    | (go_at_call 21; refine (hZr _).mono ?_; rintro e w9 ⟨rfl, hb9⟩; have hb79 : Below w7.heap.size w7 w9 := bt (by (repeat (first | (with_reducible exact Below.refl _ _) | (with_reducible assumption) | (with_reducible apply bd) | (with_reducible apply ba) | (with_reducible refine bp ?_ (by first | omega | (simp [pad_size]; done) | (simp [pad_size]; omega)) _ _) | (with_reducible refine bs ?_ (by first | omega | (simp [pad_size]; done) | (simp [pad_size]; omega)) _) | (with_reducible refine bt ?_ (by assumption))))) hb9; obtain ⟨e17x, f17x⟩ := cells_of_block ((hb79.block _ (Array.getElem?_eq_some_iff.1 p27).1).trans p27); (try (have xy9 := (hb9.block w7.heap.size (by simp)).trans (al_at rfl); obtain ⟨e18x, f18x⟩ := cells_of_block xy9)))
    )
  go_ret
  exact ⟨rfl, (bt hB7 hb79)⟩
set_option maxRecDepth 20000 in
set_option maxHeartbeats 16000000 in
theorem there_0bad (h3 : ¬ 30 < sum3 n1 n2 n3) (hi : i ≤ 255) (hx : VIn ⟨ow, rt, jl, t0, t1, t2, t3, s0, s1, s2, s3, ix, er⟩) (l1 : CoIn w a1 n1 c1 ix) (l2 : CoIn w a2 n2 c2 er) (hy : DIn ⟨do', 0, r0, r1, r2, r3, jx⟩) (l3 : CoIn w a3 n3 c3 jx) (hm : mayB ow rt ix er = false) (hg : 200 ≤ do' ∨ rightFrom 0 jx = false) :
    Calls Try.prog 5 #[.agg #[.int .u8 (i : Nat), .int .u8 ow, .int .u16 rt, .bool jl, .int .u64 t0, .int .u64 t1, .int .u64 t2, .int .u64 t3, .int .u64 s0, .int .u64 s1, .int .u64 s2, .int .u64 s3, .slice a1 n1 c1, .slice a2 n2 c2], .agg #[.int .u8 (do' : Nat), .int .u8 (va : Nat), .int .u64 r0, .int .u64 r1, .int .u64 r2, .int .u64 r3, .slice a3 n3 c3]] w fun e w' => e = .returned (.bool true) ∧ Below w.heap.size w w' := by
  unfold sum3 at h3
  have hw := hy.ow
  simp only at hw
  have hSV : Hid (∀ (s : Nat) (X : World) (A : Nat → Prop) (L : List (List Int × List Int)), Below w.heap.size w X → StD X s s A L [] 1 → PoL L [newV 5 0] [] → Calls Try.prog 16 #[.pointer (some ⟨s, 0, none⟩), .agg #[.int .u8 0, .int .u8 ow, .int .u16 rt, .bool jl, .int .u64 t0, .int .u64 t1, .int .u64 t2, .int .u64 t3, .int .u64 s0, .int .u64 s1, .int .u64 s2, .int .u64 s3, .slice a1 n1 c1, .slice a2 n2 c2]] X fun e w' => e = .returned (.int .i64 1) ∧ ∃ A' L', StD w' s s A' L' [] 2 ∧ PoL L' [(newV 5 0)] [] ∧ Fr X w' A A') := fun s X A L hX hS hP => by
    obtain ⟨i1, rfl⟩ := l1
    obtain ⟨i2, rfl⟩ := l2
    refine (setVal_bad hx (i1.below hX) (i2.below hX) _ (.inr hm)).mono ?_
    rintro e w' ⟨rfl, hb⟩
    exact ⟨rfl, A, L, (hS.below hb).up (by omega), hP, Fr.below hb⟩
  have hSD : Hid (∀ (s : Nat) (X : World) (A : Nat → Prop) (L : List (List Int × List Int)), Below w.heap.size w X → StD X s s A L [] 2 → PoL L [(newV 5 0)] [] → Calls Try.prog 17 #[.pointer (some ⟨s, 0, none⟩), .agg #[.int .u8 (do' : Nat), .int .u8 0, .int .u64 r0, .int .u64 r1, .int .u64 r2, .int .u64 r3, .slice a3 n3 c3]] X fun e w' => e = .returned (.int .i64 1) ∧ ∃ A' L', StD w' s s A' L' [] 3 ∧ PoL L' [(newV 5 0)] [] ∧ Fr X w' A A') := fun s X A L hX hS hP => by
    obtain ⟨i1, rfl⟩ := l3
    refine (setDg_bad hy (i1.below hX) _ (.inr hg)).mono ?_
    rintro e w' ⟨rfl, hb⟩
    exact ⟨rfl, A, L, (hS.below hb).up (by omega), hP, Fr.below hb⟩
  have hVl : Hid (∀ (s : Nat) (X : World) (A : Nat → Prop) (L : List (List Int × List Int)), StD X s s A L [] 3 → PoL L [(newV 5 0)] [] → Calls Try.prog 18 #[.pointer (some ⟨s, 0, none⟩), .int .u8 0] X fun e w' => ∃ b1 d1 b2 d2, e = .returned (.tuple #[.agg #[.int .u8 0, .int .u8 5, .int .u16 0, .bool false, .int .u64 0, .int .u64 0, .int .u64 0, .int .u64 0, .int .u64 0, .int .u64 0, .int .u64 0, .int .u64 0, .slice b1 0 d1, .slice b2 0 d2], .bool true]) ∧ IsCoins w' (.slice b1 0 d1) [] ∧ IsCoins w' (.slice b2 0 d2) [] ∧ Below X.heap.size X w') := fun s X A L hS hP => by
    have hl := right_len (hP.vok _ (List.mem_singleton.2 rfl)).ir
    have hl2 := right_len (hP.vok _ (List.mem_singleton.2 rfl)).er
    simp only [newV] at hl hl2
    refine (val_yes (i := 0) hS hP (by omega) rfl).mono ?_
    rintro e w' ⟨b1, d1, b2, d2, rfl, u1, u2, hb⟩
    exact ⟨b1, d1, b2, d2, rfl, own_coins u1 (by omega), own_coins u2 (by omega), hb⟩
  have hGt : Hid (∀ (s : Nat) (X : World) (A : Nat → Prop) (L : List (List Int × List Int)), StD X s s A L [] 3 → PoL L [(newV 5 0)] [] → Calls Try.prog 19 #[.pointer (some ⟨s, 0, none⟩), .int .u8 (do' : Nat), .int .u8 0] X fun e w' => e = .returned (.tuple #[.agg #[.int .u8 0, .int .u8 0, .int .u64 0, .int .u64 0, .int .u64 0, .int .u64 0, .slice none 0 0], .bool false]) ∧ Below X.heap.size X w') := fun s X A L hS hP => by
    exact getD_not (a := do') (b := 0) hS hP (by omega) hw (by decide) (by simp)
  have hm0 : mayB 5 0 [] [] = true := by decide
  have hA : (((w.alloc (.cells #[.int .u8 (i : Nat), .int .u8 ow, .int .u16 rt, .bool jl, .int .u64 t0, .int .u64 t1, .int .u64 t2, .int .u64 t3, .int .u64 s0, .int .u64 s1, .int .u64 s2, .int .u64 s3, .slice a1 n1 c1, .slice a2 n2 c2] 43)).alloc (.cells #[.int .u8 (do' : Nat), .int .u8 (va : Nat), .int .u64 r0, .int .u64 r1, .int .u64 r2, .int .u64 r3, .slice a3 n3 c3] 45))).heap[w.heap.size]? = some (.cells #[.int .u8 (i : Nat), .int .u8 ow, .int .u16 rt, .bool jl, .int .u64 t0, .int .u64 t1, .int .u64 t2, .int .u64 t3, .int .u64 s0, .int .u64 s1, .int .u64 s2, .int .u64 s3, .slice a1 n1 c1, .slice a2 n2 c2] 43 (0, 0)) := (al_old (by simp)).trans (al_at rfl)
  have hB : (((w.alloc (.cells #[.int .u8 (i : Nat), .int .u8 ow, .int .u16 rt, .bool jl, .int .u64 t0, .int .u64 t1, .int .u64 t2, .int .u64 t3, .int .u64 s0, .int .u64 s1, .int .u64 s2, .int .u64 s3, .slice a1 n1 c1, .slice a2 n2 c2] 43)).alloc (.cells #[.int .u8 (do' : Nat), .int .u8 (va : Nat), .int .u64 r0, .int .u64 r1, .int .u64 r2, .int .u64 r3, .slice a3 n3 c3] 45))).heap[w.heap.size + 1]? = some (.cells #[.int .u8 (do' : Nat), .int .u8 (va : Nat), .int .u64 r0, .int .u64 r1, .int .u64 r2, .int .u64 r3, .slice a3 n3 c3] 45 (0, 0)) := al_at (by simp)
  have hz : (((w.alloc (.cells #[.int .u8 (i : Nat), .int .u8 ow, .int .u16 rt, .bool jl, .int .u64 t0, .int .u64 t1, .int .u64 t2, .int .u64 t3, .int .u64 s0, .int .u64 s1, .int .u64 s2, .int .u64 s3, .slice a1 n1 c1, .slice a2 n2 c2] 43)).alloc (.cells #[.int .u8 (do' : Nat), .int .u8 (va : Nat), .int .u64 r0, .int .u64 r1, .int .u64 r2, .int .u64 r3, .slice a3 n3 c3] 45))).heap.size = w.heap.size + 1 + 1 := by simp
  have hw8 : IntKind.u8.wrap (0 : Int) = 0 := by decide
  clear hx hy l1 l2 l3 hm hg hi hw 
  go_enter Try.func5, Try.ntmps5
  go_upto_region 6 with (first
    | (go_at_call 8; refine (adds_any _).mono ?_; rintro e w1 ⟨rfl, hb1⟩; have q1 := (hb1.block w.heap.size (by omega)).trans hA; have q2 := (hb1.block (w.heap.size + 1) (by omega)).trans hB; obtain ⟨e1, f1⟩ := cells_of_block q1; obtain ⟨e2, f2⟩ := cells_of_block q2; have hB1 : Below w.heap.size w w1 := bt (by (repeat (first | (with_reducible exact Below.refl _ _) | (with_reducible assumption) | (with_reducible apply bd) | (with_reducible apply ba) | (with_reducible refine bp ?_ (by first | omega | (simp [pad_size]; done) | (simp [pad_size]; omega)) _ _) | (with_reducible refine bs ?_ (by first | omega | (simp [pad_size]; done) | (simp [pad_size]; omega)) _) | (with_reducible refine bt ?_ (by assumption))))) hb1; have z1 : w.heap.size + 1 < w1.heap.size := (Array.getElem?_eq_some_iff.1 q2).1)
    | (go_at_call 10; refine (stdNew _).mono ?_; rintro e w2 ⟨rfl, h2, hb2⟩; have hB2 := bt hB1 hb2; have q12 := (hb2.block w.heap.size (by omega)).trans q1; have q22 := (hb2.block (w.heap.size + 1) z1).trans q2)
    | (go_at_call 15; (refine (add_any h2 PoL.new (by omega) (by omega) (by omega) hm0).mono ?_; (rintro e w3 (⟨-, rfl, A3, L3, h3', hP3, -, f3'⟩ | ⟨e1, -⟩); rotate_left; exact absurd e1 (by simp)); have q13 := fr_blk f3' h2.foot (by omega) q12; have q23 := fr_blk f3' h2.foot z1 q22; obtain ⟨e3, g3⟩ := cells_of_block q13; obtain ⟨e4, g4⟩ := cells_of_block q23; have hB3 := Fr.out hB2 f3' (fun k hk => by have := (h2.foot k hk).1; omega))))
  obtain ⟨X, hX⟩ : ∃ X, (w3.setCell ⟨w.heap.size, 0, none⟩ (.int .u8 0)).setCell ⟨w.heap.size + 1, 1, none⟩ (.int .u8 0) = X := ⟨_, rfl⟩
  have hBX : Below w.heap.size w X := by rw [← hX]; exact bs (bs hB3 (Nat.le_refl _) _) (Nat.le_succ _) _
  have p1 : X.heap[w.heap.size]? = some (.cells #[.int .u8 0, .int .u8 ow, .int .u16 rt, .bool jl, .int .u64 t0, .int .u64 t1, .int .u64 t2, .int .u64 t3, .int .u64 s0, .int .u64 s1, .int .u64 s2, .int .u64 s3, .slice a1 n1 c1, .slice a2 n2 c2] 43 (0, 0)) := by
    rw [← hX]
    exact (block_set_other _ ((block_set _ q13).trans (by first | rfl | simp)) (by omega))
  have p2 : X.heap[w.heap.size + 1]? = some (.cells #[.int .u8 (do' : Nat), .int .u8 0, .int .u64 r0, .int .u64 r1, .int .u64 r2, .int .u64 r3, .slice a3 n3 c3] 45 (0, 0)) := by
    rw [← hX]
    exact (block_set _ (block_set_other _ q23 (by omega))).trans (by first | rfl | simp)
  have hf3 := h3'.foot
  have h4 : StD X w1.heap.size w1.heap.size A3 L3 [] 1 := by
    rw [← hX]
    exact h3'.kept (fun k hk => (Below.heap_setCell _ _ _ k (by have := hf3 k hk; show _; simp; omega)).trans (Below.heap_setCell _ _ _ k (by have := hf3 k hk; simp; omega))) (by simp [World.setCell])
  rw [hX]
  have hP3 : PoL L3 [newV 5 0] [] := hP3
  have p1d : X.drew.heap[w.heap.size]? = some (.cells #[.int .u8 0, .int .u8 ow, .int .u16 rt, .bool jl, .int .u64 t0, .int .u64 t1, .int .u64 t2, .int .u64 t3, .int .u64 s0, .int .u64 s1, .int .u64 s2, .int .u64 s3, .slice a1 n1 c1, .slice a2 n2 c2] 43 (0, 0)) := p1
  have p2d : X.drew.heap[w.heap.size + 1]? = some (.cells #[.int .u8 (do' : Nat), .int .u8 0, .int .u64 r0, .int .u64 r1, .int .u64 r2, .int .u64 r3, .slice a3 n3 c3] 45 (0, 0)) := p2
  have hBXd : Below w.heap.size w X.drew := bd hBX
  have h4d : StD X.drew w1.heap.size w1.heap.size A3 L3 [] 1 := h4.below (bd (Below.refl _ _))
  obtain ⟨e1x, f1x⟩ := cells_of_block p1
  obtain ⟨e2x, f2x⟩ := cells_of_block p2
  clear hX e1 f1 e2 f2 e3 g3 e4 g4 q1 q2 q12 q22 q13 q23 hb1 hb2 h2 f3' h3' hA hB hz
  go_region_held2 (fun Z => Z.cell? ⟨w.heap.size, 0, none⟩ = some (.int .u8 0) ∧ Z.cell? ⟨w.heap.size, 1, none⟩ = some (.int .u8 ow) ∧ Z.cell? ⟨w.heap.size, 2, none⟩ = some (.int .u16 rt) ∧ Z.cell? ⟨w.heap.size, 3, none⟩ = some (.bool jl) ∧ Z.cell? ⟨w.heap.size, 4, none⟩ = some (.int .u64 t0) ∧ Z.cell? ⟨w.heap.size, 5, none⟩ = some (.int .u64 t1) ∧ Z.cell? ⟨w.heap.size, 6, none⟩ = some (.int .u64 t2) ∧ Z.cell? ⟨w.heap.size, 7, none⟩ = some (.int .u64 t3) ∧ Z.cell? ⟨w.heap.size, 8, none⟩ = some (.int .u64 s0) ∧ Z.cell? ⟨w.heap.size, 9, none⟩ = some (.int .u64 s1) ∧ Z.cell? ⟨w.heap.size, 10, none⟩ = some (.int .u64 s2) ∧ Z.cell? ⟨w.heap.size, 11, none⟩ = some (.int .u64 s3) ∧ Z.cell? ⟨w.heap.size, 12, none⟩ = some (.slice a1 n1 c1) ∧ Z.cell? ⟨w.heap.size, 13, none⟩ = some (.slice a2 n2 c2) ∧ Z.cell? ⟨w.heap.size + 1, 0, none⟩ = some (.int .u8 (do' : Nat)) ∧ Z.cell? ⟨w.heap.size + 1, 1, none⟩ = some (.int .u8 0) ∧ Z.cell? ⟨w.heap.size + 1, 2, none⟩ = some (.int .u64 r0) ∧ Z.cell? ⟨w.heap.size + 1, 3, none⟩ = some (.int .u64 r1) ∧ Z.cell? ⟨w.heap.size + 1, 4, none⟩ = some (.int .u64 r2) ∧ Z.cell? ⟨w.heap.size + 1, 5, none⟩ = some (.int .u64 r3) ∧ Z.cell? ⟨w.heap.size + 1, 6, none⟩ = some (.slice a3 n3 c3)) (first | (with_reducible assumption) | (go_simp)) (first
    | (go_at_call 16; with_reducible refine (hSV.out w1.heap.size X.drew A3 L3 hBXd h4d hP3).mono ?_; rintro e w4 ⟨rfl, A4, L4, h5, hP4, f4⟩; have p14 := fr_blk f4 (fun k hk => h4d.foot k hk) (by omega) p1d; have p24 := fr_blk f4 (fun k hk => h4d.foot k hk) z1 p2d; have hB4 := Fr.out hBXd f4 (fun k hk => by have := (h4d.foot k hk).1; omega); obtain ⟨e4x, f4x⟩ := cells_of_block p14; obtain ⟨e5x, f5x⟩ := cells_of_block p24)
    | (go_at_call 17; with_reducible refine (hSD.out w1.heap.size w4 A4 L4 hB4 h5 hP4).mono ?_; rintro e w5 ⟨rfl, A5, L5, h6, hP5, f5⟩; have p15 := fr_blk f5 (fun k hk => h5.foot k hk) (by omega) p14; have p25 := fr_blk f5 (fun k hk => h5.foot k hk) z1 p24; have hB5 := Fr.out hB4 f5 (fun k hk => by have := (h5.foot k hk).1; omega); obtain ⟨e6x, f6x⟩ := cells_of_block p15; obtain ⟨e7x, f7x⟩ := cells_of_block p25))
  have y1 := (Array.getElem?_eq_some_iff.1 p15).1
  have y2 := (Array.getElem?_eq_some_iff.1 p25).1
  clear e1x f1x e2x f2x e4x f4x e5x f5x p1 p2 h4 hBX p1d p2d hBXd h4d p14 p24 h5 f4 f5 hP3 hP4 hSV hSD hf3
  go_wp2_with (first
    | (go_at_call 18; refine (hVl.out _ _ A5 L5 h6 hP5).mono ?_; rintro e w6 ⟨b1, d1, b2, d2, rfl, u1, u2, hb6⟩; have p16 := (hb6.block _ y1).trans p15; have p26 := (hb6.block _ y2).trans p25; obtain ⟨e8x, f8x⟩ := cells_of_block p16; obtain ⟨e9x, f9x⟩ := cells_of_block p26; have y16 := (Array.getElem?_eq_some_iff.1 p16).1; have y26 := (Array.getElem?_eq_some_iff.1 p26).1; have u1 : Hid (IsCoins w6 _ _) := u1; have u2 : Hid (IsCoins w6 _ _) := u2)
    | (go_at_call 19; refine (hGt.out _ _ A5 L5 (h6.below (bt hb6 (by (repeat (first | (with_reducible exact Below.refl _ _) | (with_reducible assumption) | (with_reducible apply bd) | (with_reducible apply ba) | (with_reducible refine bp ?_ (by first | omega | (simp [pad_size]; done) | (simp [pad_size]; omega)) _ _) | (with_reducible refine bs ?_ (by first | omega | (simp [pad_size]; done) | (simp [pad_size]; omega)) _) | (with_reducible refine bt ?_ (by assumption))))))) hP5).mono ?_; rintro e w7 ⟨rfl, hb7⟩; have hb67 : Below w6.heap.size w6 w7 := bt (by (repeat (first | (with_reducible exact Below.refl _ _) | (with_reducible assumption) | (with_reducible apply bd) | (with_reducible apply ba) | (with_reducible refine bp ?_ (by first | omega | (simp [pad_size]; done) | (simp [pad_size]; omega)) _ _) | (with_reducible refine bs ?_ (by first | omega | (simp [pad_size]; done) | (simp [pad_size]; omega)) _) | (with_reducible refine bt ?_ (by assumption))))) hb7; have p17 := (hb67.block _ y16).trans p16; have p27 := (hb67.block _ y26).trans p26; have x67 := (hb7.block w6.heap.size (by simp)).trans (al_at rfl); obtain ⟨e10x, f10x⟩ := cells_of_block p17; obtain ⟨e11x, f11x⟩ := cells_of_block p27; obtain ⟨e12x, f12x⟩ := cells_of_block x67; have y17 := (Array.getElem?_eq_some_iff.1 p17).1; have y27 := (Array.getElem?_eq_some_iff.1 p27).1; have yx := (Array.getElem?_eq_some_iff.1 x67).1; have hB7 := bt hB5 (bt hb6 hb67))
    
    
    )
  go_ret
  exact ⟨rfl, bt hB7 (by (repeat (first | (with_reducible exact Below.refl _ _) | (with_reducible assumption) | (with_reducible apply bd) | (with_reducible apply ba) | (with_reducible refine bp ?_ (by first | omega | (simp [pad_size]; done) | (simp [pad_size]; omega)) _ _) | (with_reducible refine bs ?_ (by first | omega | (simp [pad_size]; done) | (simp [pad_size]; omega)) _) | (with_reducible refine bt ?_ (by assumption)))))⟩
end
theorem poolThere_any {w : World} (y0 : Pva) (y1 : Pda) (h0 : PvaIn w y0) (h1 : PdaIn w y1) :
    Calls Try.prog 5 #[.agg (vaC y0).toArray, .agg (daC y1).toArray] w fun e w' => e = .returned (.bool true) ∧ Below w.heap.size w w' := by
  obtain ⟨i, ⟨ow, rt, jl, t0, t1, t2, t3, s0, s1, s2, s3, ix, er⟩, a1, n1, c1, a2, n2, c2⟩ := y0
  obtain ⟨⟨do', va, r0, r1, r2, r3, jx⟩, a3, n3, c3⟩ := y1
  obtain ⟨hi, hx, -, -, l1, l2⟩ := h0
  obtain ⟨hy, -, l3⟩ := h1
  simp only at hi hx l1 l2 hy l3
  have hy : DIn ⟨do', 0, r0, r1, r2, r3, jx⟩ := ⟨hy.ow, Nat.zero_le _, hy.s, hy.iw⟩
  show Calls Try.prog 5 #[.agg #[.int .u8 (i : Nat), .int .u8 ow, .int .u16 rt, .bool jl, .int .u64 t0, .int .u64 t1, .int .u64 t2, .int .u64 t3, .int .u64 s0, .int .u64 s1, .int .u64 s2, .int .u64 s3, .slice a1 n1 c1, .slice a2 n2 c2], .agg #[.int .u8 (do' : Nat), .int .u8 (va : Nat), .int .u64 r0, .int .u64 r1, .int .u64 r2, .int .u64 r3, .slice a3 n3 c3]] w _
  by_cases h3 : 30 < sum3 n1 n2 n3
  · exact there_many h3
  · by_cases hg : do' < 200 ∧ rightFrom 0 jx = true
    · obtain ⟨hg1, hg2⟩ := hg
      cases hm : mayB ow rt ix er
      · cases hg3 : eq4 r0 r1 r2 r3 0 0 0 0
        · exact there_0ok h3 hi hx l1 l2 hy l3 hm hg1 hg2 hg3
        · exact there_0zero h3 hi hx l1 l2 hy l3 hm hg1 hg2 hg3
      · cases hg3 : eq4 r0 r1 r2 r3 0 0 0 0
        · exact there_1ok h3 hi hx l1 l2 hy l3 hm hg1 hg2 hg3
        · exact there_1zero h3 hi hx l1 l2 hy l3 hm hg1 hg2 hg3
    · have hg' : 200 ≤ do' ∨ rightFrom 0 jx = false := by
        by_cases h1 : do' < 200
        · right; cases hr : rightFrom 0 jx; rfl; exact absurd ⟨h1, hr⟩ hg
        · left; omega
      cases hm : mayB ow rt ix er
      · exact there_0bad h3 hi hx l1 l2 hy l3 hm hg'
      · exact there_1bad h3 hi hx l1 l2 hy l3 hm hg'

theorem poolThere_own : ownKnob Try.prog.godebug = none := by kernel_rfl
theorem poolThere_laid : laidOutB Try.prog = true := by kernel_rfl

set_option maxRecDepth 100000 in
theorem poolThere_lifted (os : Os) (started : os.Started) (H : Type) (enc : TypeId × Value → H) :
    ReturnsInHanded {} Try.checked os 5 .any (Rows.poolThereSpec.pre6 enc Try.prog Try.f5 Rows.poolThereRow.domain false) (Rows.poolThereSpec.post enc Try.prog Try.f5 false true false false) := by
  refine returnsInHanded_of_change (C := Try.checked) poolThere_own started (by kernel_rfl) Try.func5
    (ChangeSpec.witness6 (enc := enc) (C := Try.checked) false ⟨#[], #[.agg #[.int .u8 0, .int .u8 0, .int .u16 0, .bool false, .int .u64 0, .int .u64 0, .int .u64 0, .int .u64 0, .int .u64 0, .int .u64 0, .int .u64 0, .int .u64 0, .slice none 0 0, .slice none 0 0], .agg #[.int .u8 0, .int .u8 0, .int .u64 0, .int .u64 0, .int .u64 0, .int .u64 0, .slice none 0 0]], []⟩ 8 (by kernel_rfl) (by kernel_rfl) (by kernel_rfl) (by kernel_rfl)) ?_
  intro W base args ds gs before hval0 hW hcnd _
  have hval : ∀ (j : Nat) t v, Try.f5.params[j]? = some t → args[j]? = some v → Value.okWide Try.prog W .any base t v := hval0
  have hW' := hW
  obtain ⟨p, q, hA0, hV, rfl, hfz, hnd⟩ := hW
  have hA : DataW.TrodAll enc Try.prog W 0 (fun _ => true) true Try.f5.params.toList args.toList ds p := hA0
  rw [Try.params5] at hA hval
  obtain ⟨v0, vs0, d0, ds0, p0, q0, hargs0, rfl, rfl, h0, r0⟩ := trodAll_cons hA
  obtain ⟨v1, vs1, d1, ds1, p1, q1, hargs1, rfl, rfl, h1, r1⟩ := trodAll_cons r0
  obtain ⟨rfl, rfl, rfl⟩ := trodAll_nil r1
  obtain rfl : args = #[v0, v1] := by cases args; simp_all
  obtain ⟨rfl, rfl⟩ := trodVars_none hV
  have k0 := h0
  have lt0 : ∀ x ∈ p0, x.block < W.heap.size := by obtain ⟨m, hm⟩ := k0; exact DataW.trod_lt m _ _ _ hm
  have k1 := h1
  have lt1 : ∀ x ∈ p1, x.block < W.heap.size := by obtain ⟨m, hm⟩ := k1; exact DataW.trod_lt m _ _ _ hm
  obtain ⟨y0, rfl, hl0⟩ := val11_in (hval 0 43 v0 rfl rfl) h0
  obtain ⟨y1, rfl, hl1⟩ := del11_in (hval 1 45 v1 rfl rfl) h1
  clear hA0 hval0
  have walk : Calls Try.prog 5 _ W fun e w' => e = .returned (.bool true) ∧ Below W.heap.size W w' := poolThere_any y0 y1 hl0 hl1
  refine walk.mono fun e W' ⟨he, bel⟩ => ?_
  subst he
  exact ⟨_, rfl, _, _, _, [], _, [], hW', trodAll_mk1 (shut_bool Try.underlying4 _), trodAll_cons_mk (Below.trod poolThere_laid (by kernel_rfl) (of_decide_eq_true (by kernel_rfl)) k0 bel lt0) (trodAll_cons_mk (Below.trod poolThere_laid (by kernel_rfl) (of_decide_eq_true (by kernel_rfl)) k1 bel lt1) (trodAll_mk0)), rfl, bel.frame _, fun h => by cases h⟩

theorem poolThere_holds : Rows.PoolThereSaid :=
  OpenClaim.holds_of_wide 5 Try.f5 rfl rfl rfl rfl rfl rfl rfl ⟨rfl, rfl, rfl, rfl, rfl⟩ rfl rfl rfl rfl rfl (by kernel_rfl) Try.func5 (by kernel_rfl)
    (of_decide_eq_true (by kernel_rfl)) (by unfold Func.isWrapper; first | (rw [if_pos (by decide +kernel)]; kernel_rfl) | (rw [if_neg (by decide +kernel)]; exact ⟨rfl, rfl⟩))
    (fun os started H enc _ => poolThere_lifted os started H enc)
#print axioms poolThere_holds
end Go.Proofs.Ytafcianpajheiaa
