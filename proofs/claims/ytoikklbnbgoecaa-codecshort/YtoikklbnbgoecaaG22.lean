
/- jointurelaw04.lay. -/
import Derived.Test.YtoikklbnbgoecaaG21
import Derived.Deep.RegionHeld2
set_option linter.unusedSimpArgs false
set_option linter.unusedVariables false
namespace Go.Proofs.Ytoikklbnbgoecaa
open Go.RowKit

/-- A writer and a list, apart from one another; nothing that was there at first has turned. -/
structure LO (w0 W : World) (b : Nat) (v u : Value) (p q : List Int) : Prop where
  wr : WrAt W b w0.heap.size v p
  row : W.ownsRow w0.heap.size 5 1 u q.length (encB q)
  apart : u.ownBlock = none ∨ u.ownBlock ≠ v.ownBlock
  below : Below w0.heap.size w0 W
  bb : w0.heap.size ≤ b
/-- A truth as a byte. -/
def flI (x : Bool) : Int := if x then 1 else 0
theorem LO.box {w0 W : World} {b : Nat} {v u : Value} {p q : List Int} (h : LO w0 W b v u p q) (cs : Array Value) (L : List Cn) : LJ w0 (W.alloc (.cells cs 36)) b W.heap.size cs L v u p q none [] := by
  have hg : W.grownBy (W.alloc (.cells cs 36)) none := World.grownBy_alloc W _ none
  exact ⟨h.wr.kept hg (by simp) (by cases v.ownBlock <;> simp), none_row h.row hg, h.apart, World.alloc_heap_new W _, by simp, by simp, h.below.grown hg h.below.size (by simp), h.bb⟩
section
variable {w0 W : World} {b c : Nat} {cs : Array Value} {L : List Cn} {v u : Value} {p q : List Int} {ys : Option (Value × List Int)} {zs : List Value}
theorem LJ.out (h : LJ w0 W b c cs L v u p q ys zs) : LO w0 W b v u p q := ⟨h.wr, h.row, h.apart, h.below, h.bb⟩
theorem LJ.at (h : LJ w0 W b c cs L v u p q ys zs) (j : Nat) (x : Value) (hx : cs[j]? = some x) : W.cell? ⟨c, j, none⟩ = some x := ((cells_of_block h.blk).1 j).trans hx
theorem LJ.step {f : FuncId} {args : Array Value} {r : Ending} {p' : List Int} (h : LJ w0 W b c cs L v u p q ys zs) (hC : Calls Try.prog f args W fun e w' => e = r ∧ ∃ v', WrAt w' b w0.heap.size v' p' ∧ WF W w' b v v') :
    Calls Try.prog f args W fun e w' => e = r ∧ ∃ v', LJ w0 w' b c cs L v' u p' q ys zs := by
  refine hC.mono ?_
  rintro e w' ⟨rfl, v', h1, h2⟩
  exact ⟨rfl, v', h.write h2 h1⟩
theorem LJ.made {f : FuncId} {args : Array Value} {l : List Int} (h : LJ w0 W b c cs L v u p q none zs) (hC : Calls Try.prog f args W fun e w' => ∃ y, e = .returned y ∧ w'.ownsRow W.heap.size 5 1 y l.length (encB l) ∧ Below W.heap.size W w') :
    Calls Try.prog f args W fun e w' => ∃ y, e = .returned y ∧ LJ w0 w' b c cs L v u p q (some (y, l)) zs := by
  refine hC.mono ?_
  rintro e w' ⟨y, rfl, h1, h2⟩
  exact ⟨y, rfl, h.make h2 h1⟩
theorem LJ.coined {f : FuncId} {args : Array Value} (h : LJ w0 W b c cs L v u p q ys zs) (hC : Calls Try.prog f args W fun e w' => ∃ z, e = .returned z ∧ w'.ownsRow W.heap.size 74 5 z L.length (cellsL L) ∧ Below W.heap.size W w') :
    Calls Try.prog f args W fun e w' => ∃ z, e = .returned z ∧ LJ w0 w' b c cs L v u p q ys (z :: zs) := by
  refine hC.mono ?_
  rintro e w' ⟨z, rfl, h1, h2⟩
  exact ⟨z, rfl, h.coin h2 h1⟩
/-- One byte is laid beside. -/
theorem LJ.one (h : LJ w0 W b c cs L v u p q none zs) (x : Int) : LJ w0 (W.alloc (.cells #[.int .u8 x] 5)) b c cs L v u p q (some (.slice (some ⟨W.heap.size, 0, none⟩) 1 1, [x])) zs :=
  h.make (ba (Below.refl _ _) _) (made1 W x (Nat.le_refl _))
theorem LJ.sByte (x : Int) (h : LJ w0 W b c cs L v u p q ys zs) (hl : p.length + 1 ≤ 1048576) : Calls Try.prog 25 #[.pointer (some ⟨b, 0, none⟩), .int .u8 x] W fun e w' => e = .returned (.pointer (some ⟨b, 0, none⟩)) ∧ ∃ v', LJ w0 w' b c cs L v' u (p ++ [x]) q ys zs := h.step (wByte_any x h.wr h.le hl)
theorem LJ.sFlag (x : Bool) (h : LJ w0 W b c cs L v u p q ys zs) (hl : p.length + 1 ≤ 1048576) : Calls Try.prog 27 #[.pointer (some ⟨b, 0, none⟩), .bool x] W fun e w' => e = .returned (.pointer (some ⟨b, 0, none⟩)) ∧ ∃ v', LJ w0 w' b c cs L v' u (p ++ [flI x]) q ys zs := h.step (wFlag_any x h.wr h.le hl)
theorem LJ.mFlag (x : Bool) (h : LJ w0 W b c cs L v u p q none zs) : Calls Try.prog 35 #[.bool x] W fun e w' => ∃ y, e = .returned y ∧ LJ w0 w' b c cs L v u p q (some (y, [flI x])) zs := h.made (flagR_any x W)
theorem LJ.sShort (x : Int) (hx : 0 ≤ x ∧ x < 65536) (h : LJ w0 W b c cs L v u p q ys zs) (hl : p.length + 2 ≤ 1048576) : Calls Try.prog 28 #[.pointer (some ⟨b, 0, none⟩), .int .u16 x] W fun e w' => e = .returned (.pointer (some ⟨b, 0, none⟩)) ∧ ∃ v', LJ w0 w' b c cs L v' u (p ++ be x 2) q ys zs := h.step (wShort_any x hx h.wr h.le hl)
theorem LJ.sLong (x : Int) (hx : 0 ≤ x ∧ x < 18446744073709551616) (h : LJ w0 W b c cs L v u p q ys zs) (hl : p.length + 8 ≤ 1048576) : Calls Try.prog 29 #[.pointer (some ⟨b, 0, none⟩), .int .u64 x] W fun e w' => e = .returned (.pointer (some ⟨b, 0, none⟩)) ∧ ∃ v', LJ w0 w' b c cs L v' u (p ++ be x 8) q ys zs := h.step (wLong_any x hx h.wr h.le hl)
theorem LJ.sNum (x0 x1 x2 x3 : Int) (hx : Lim x0 x1 x2 x3) (h : LJ w0 W b c cs L v u p q ys zs) (hl : p.length + 33 ≤ 1048576) : Calls Try.prog 30 #[.pointer (some ⟨b, 0, none⟩), .agg #[.int .u64 x0, .int .u64 x1, .int .u64 x2, .int .u64 x3]] W fun e w' => e = .returned (.pointer (some ⟨b, 0, none⟩)) ∧ ∃ v', LJ w0 w' b c cs L v' u (p ++ layN (val x0 x1 x2 x3)) q ys zs := h.step (wNum_any x0 x1 x2 x3 hx h.wr h.le hl)
theorem LJ.sCoins {z : Value} (h : LJ w0 W b c cs L v u p q ys zs) (hz : z ∈ zs) (hwf : ∀ x ∈ L, CnWf x) (hLn : L.length ≤ 255) (hl : p.length + 9000 ≤ 1048576) : Calls Try.prog 21 #[.pointer (some ⟨b, 0, none⟩), z] W fun e w' => e = .returned (.pointer (some ⟨b, 0, none⟩)) ∧ ∃ v', LJ w0 w' b c cs L v' u (p ++ ((L.length : Int) :: layL L)) q ys zs :=
  h.step (wCoins_any h.wr h.le hwf hLn hl (h.coins z hz) (ne_own h.wr.1 (by decide) (h.coins z hz)) (rows_apart (h.coins z hz) h.wr.2 (by decide)))
theorem LJ.mCoins {z : Value} (h : LJ w0 W b c cs L v u p q none zs) (hz : z ∈ zs) (hwf : ∀ x ∈ L, CnWf x) (hLn : L.length ≤ 255) : Calls Try.prog 39 #[z] W fun e w' => ∃ y, e = .returned y ∧ LJ w0 w' b c cs L v u p q (some (y, (L.length : Int) :: layL L)) zs :=
  h.made (coinsR4_any hwf hLn W (own_coins (h.coins z hz) (by omega)))
end

set_option maxRecDepth 10000 in
set_option maxHeartbeats 4000000 in
theorem lay_0 {w0 W : World} {b : Nat} {v u : Value} {p q : List Int} (kd x0 x1 x2 x3 : Int) (a : Option Addr) (n cap : Nat) (hk : 0 ≤ kd ∧ kd ≤ 255) (hr : kd % 6 = 0) (hx : Lim x0 x1 x2 x3) (h : LO w0 W b v u p q) (hl : p.length + 9000 ≤ 1048576) (hl2 : q.length + 9000 ≤ 1048576) :
    Calls Try.prog 12 #[.pointer (some ⟨b, 0, none⟩), u, .agg #[.int .u8 kd, .int .u64 x0, .int .u64 x1, .int .u64 x2, .int .u64 x3, .slice a n cap]] W fun e w' => ∃ v' u', e = .returned (.tuple #[.pointer (some ⟨b, 0, none⟩), u']) ∧ LO w0 w' b v' u' (p ++ [x0 % 256]) (q ++ [x0 % 256]) := by
  have hJ := h.box #[.int .u8 kd, .int .u64 x0, .int .u64 x1, .int .u64 x2, .int .u64 x3, .slice a n cap] []
  rw [← IntKind.wrap_u8]
  have hJm := (hJ.one (IntKind.u8.wrap x0)).drew
  rw [show (W.alloc (.cells #[.int .u8 kd, .int .u64 x0, .int .u64 x1, .int .u64 x2, .int .u64 x3, .slice a n cap] 36)).heap.size = W.heap.size + 1 by simp] at hJm
  have hkt : kd.tmod 6 = 0 := by rw [Int.tmod_eq_emod_of_nonneg hk.1]; exact hr
  have hlx : 0 ≤ x0 ∧ x0 < 18446744073709551616 := hx.1
  go_enter Try.func12, Try.ntmps12
  go_wp2
  go_region_held2 (fun Y => Y.cell? ⟨W.heap.size, 1, none⟩ = some (.int .u64 x0)) (exact LJ.at (by first | assumption | exact LJ.drew (by assumption) | exact LJ.one (by assumption) _ | exact LJ.drew (LJ.one (by assumption) _)) 1 _ rfl) (first
    | (go_at_call 25; refine Calls.mono (LJ.sByte _ (by first | assumption | exact LJ.drew (by assumption) | exact LJ.one (by assumption) _ | exact LJ.drew (LJ.one (by assumption) _)) (by omega)) ?_; rintro e w1 ⟨rfl, v1, hJ1⟩)
    | (rw [if_pos (by rfl)]; refine LJ.app (by first | assumption | exact LJ.drew (by assumption) | exact LJ.one (by assumption) _ | exact LJ.drew (LJ.one (by assumption) _)) (by simp) (by simp; omega) _ _ rfl rfl rfl ?_; intro u1 w1 hJ1))
  all_goals go_wp2
  all_goals go_ret2
  all_goals exact ⟨_, _, rfl, LJ.out (by assumption)⟩

set_option maxRecDepth 10000 in
set_option maxHeartbeats 4000000 in
theorem lay_1 {w0 W : World} {b : Nat} {v u : Value} {p q : List Int} (kd x0 x1 x2 x3 : Int) (a : Option Addr) (n cap : Nat) (hk : 0 ≤ kd ∧ kd ≤ 255) (hr : kd % 6 = 1) (hx : Lim x0 x1 x2 x3) (h : LO w0 W b v u p q) (hl : p.length + 9000 ≤ 1048576) (hl2 : q.length + 9000 ≤ 1048576) :
    Calls Try.prog 12 #[.pointer (some ⟨b, 0, none⟩), u, .agg #[.int .u8 kd, .int .u64 x0, .int .u64 x1, .int .u64 x2, .int .u64 x3, .slice a n cap]] W fun e w' => ∃ v' u', e = .returned (.tuple #[.pointer (some ⟨b, 0, none⟩), u']) ∧ LO w0 w' b v' u' (p ++ [flI (x0.tmod 2 == 1)]) (q ++ [flI (x0.tmod 2 == 1)]) := by
  have hJ := h.box #[.int .u8 kd, .int .u64 x0, .int .u64 x1, .int .u64 x2, .int .u64 x3, .slice a n cap] []
  have hkt : kd.tmod 6 = 1 := by rw [Int.tmod_eq_emod_of_nonneg hk.1]; exact hr
  have hlx : 0 ≤ x0 ∧ x0 < 18446744073709551616 := hx.1
  go_enter Try.func12, Try.ntmps12
  go_wp2
  go_region_held2 (fun Y => Y.cell? ⟨W.heap.size, 1, none⟩ = some (.int .u64 x0)) (exact LJ.at (by first | assumption | exact LJ.drew (by assumption)) 1 _ rfl) (first
    | (go_at_call 27; refine Calls.mono (LJ.sFlag _ (by first | assumption | exact LJ.drew (by assumption)) (by omega)) ?_; rintro e w1 ⟨rfl, v1, hJ1⟩)
    | (go_at_call 35; refine Calls.mono (LJ.mFlag _ (by first | assumption | exact LJ.drew (by assumption))) ?_; rintro e w1 ⟨y1, rfl, hJ1⟩)
    | (rw [if_pos (by rfl)]; refine LJ.app (by first | assumption | exact LJ.drew (by assumption)) (by simp) (by simp; omega) _ _ rfl rfl rfl ?_; intro u1 w1 hJ1))
  all_goals go_wp2
  all_goals go_ret2
  all_goals exact ⟨_, _, rfl, LJ.out (by assumption)⟩

set_option maxRecDepth 10000 in
set_option maxHeartbeats 4000000 in
theorem lay_2 {w0 W : World} {b : Nat} {v u : Value} {p q : List Int} (kd x0 x1 x2 x3 : Int) (a : Option Addr) (n cap : Nat) (hk : 0 ≤ kd ∧ kd ≤ 255) (hr : kd % 6 = 2) (hx : Lim x0 x1 x2 x3) (h : LO w0 W b v u p q) (hl : p.length + 9000 ≤ 1048576) (hl2 : q.length + 9000 ≤ 1048576) :
    Calls Try.prog 12 #[.pointer (some ⟨b, 0, none⟩), u, .agg #[.int .u8 kd, .int .u64 x0, .int .u64 x1, .int .u64 x2, .int .u64 x3, .slice a n cap]] W fun e w' => ∃ v' u', e = .returned (.tuple #[.pointer (some ⟨b, 0, none⟩), u']) ∧ LO w0 w' b v' u' (p ++ be (x0 % 65536) 2) (q ++ be (x0 % 65536) 2) := by
  have hJ := h.box #[.int .u8 kd, .int .u64 x0, .int .u64 x1, .int .u64 x2, .int .u64 x3, .slice a n cap] []
  rw [← IntKind.wrap_u16]
  have hxm : x0.tmod 65536 = IntKind.u16.wrap x0 := by rw [IntKind.wrap_u16]; exact Int.tmod_eq_emod_of_nonneg hx.1.1
  have hkt : kd.tmod 6 = 2 := by rw [Int.tmod_eq_emod_of_nonneg hk.1]; exact hr
  have hlx : 0 ≤ x0 ∧ x0 < 18446744073709551616 := hx.1
  go_enter Try.func12, Try.ntmps12
  go_wp2
  go_region_held2 (fun Y => Y.cell? ⟨W.heap.size, 1, none⟩ = some (.int .u64 x0)) (exact LJ.at (by first | assumption | exact LJ.drew (by assumption)) 1 _ rfl) (first
    | (go_at_call 28; refine Calls.mono (LJ.sShort (IntKind.u16.wrap x0) (by rw [IntKind.wrap_u16]; omega) (by first | assumption | exact LJ.drew (by assumption)) (by omega)) ?_; rintro e w1 ⟨rfl, v1, hJ1⟩)
    | (go_at_call 36; refine Calls.mono (LJ.made (by first | assumption | exact LJ.drew (by assumption)) (longR_any (IntKind.u16.wrap x0) (by rw [IntKind.wrap_u16]; omega) 2 (by omega) _)) ?_; rintro e w1 ⟨y1, rfl, hJ1⟩)
    | (rw [if_pos (by rfl)]; refine LJ.app (by first | assumption | exact LJ.drew (by assumption)) (by rw [be_len]; omega) (by rw [be_len]; omega) _ _ rfl rfl rfl ?_; intro u1 w1 hJ1))
  all_goals go_wp2
  all_goals go_ret2
  all_goals exact ⟨_, _, rfl, LJ.out (by assumption)⟩

set_option maxRecDepth 10000 in
set_option maxHeartbeats 4000000 in
theorem lay_3 {w0 W : World} {b : Nat} {v u : Value} {p q : List Int} (kd x0 x1 x2 x3 : Int) (a : Option Addr) (n cap : Nat) (hk : 0 ≤ kd ∧ kd ≤ 255) (hr : kd % 6 = 3) (hx : Lim x0 x1 x2 x3) (h : LO w0 W b v u p q) (hl : p.length + 9000 ≤ 1048576) (hl2 : q.length + 9000 ≤ 1048576) :
    Calls Try.prog 12 #[.pointer (some ⟨b, 0, none⟩), u, .agg #[.int .u8 kd, .int .u64 x0, .int .u64 x1, .int .u64 x2, .int .u64 x3, .slice a n cap]] W fun e w' => ∃ v' u', e = .returned (.tuple #[.pointer (some ⟨b, 0, none⟩), u']) ∧ LO w0 w' b v' u' (p ++ be x0 8) (q ++ be x0 8) := by
  have hJ := h.box #[.int .u8 kd, .int .u64 x0, .int .u64 x1, .int .u64 x2, .int .u64 x3, .slice a n cap] []
  have hkt : kd.tmod 6 = 3 := by rw [Int.tmod_eq_emod_of_nonneg hk.1]; exact hr
  have hlx : 0 ≤ x0 ∧ x0 < 18446744073709551616 := hx.1
  go_enter Try.func12, Try.ntmps12
  go_wp2
  go_region_held2 (fun Y => Y.cell? ⟨W.heap.size, 1, none⟩ = some (.int .u64 x0)) (exact LJ.at (by first | assumption | exact LJ.drew (by assumption)) 1 _ rfl) (first
    | (go_at_call 29; refine Calls.mono (LJ.sLong _ hlx (by first | assumption | exact LJ.drew (by assumption)) (by omega)) ?_; rintro e w1 ⟨rfl, v1, hJ1⟩)
    | (go_at_call 36; refine Calls.mono (LJ.made (by first | assumption | exact LJ.drew (by assumption)) (longR_any x0 hlx 8 (by omega) _)) ?_; rintro e w1 ⟨y1, rfl, hJ1⟩)
    | (rw [if_pos (by rfl)]; refine LJ.app (by first | assumption | exact LJ.drew (by assumption)) (by rw [be_len]; omega) (by rw [be_len]; omega) _ _ rfl rfl rfl ?_; intro u1 w1 hJ1))
  all_goals go_wp2
  all_goals go_ret2
  all_goals exact ⟨_, _, rfl, LJ.out (by assumption)⟩

set_option maxRecDepth 10000 in
set_option maxHeartbeats 4000000 in
theorem lay_4 {w0 W : World} {b : Nat} {v u : Value} {p q : List Int} (kd x0 x1 x2 x3 : Int) (a : Option Addr) (n cap : Nat) (hk : 0 ≤ kd ∧ kd ≤ 255) (hr : kd % 6 = 4) (hx : Lim x0 x1 x2 x3) (h : LO w0 W b v u p q) (hl : p.length + 9000 ≤ 1048576) (hl2 : q.length + 9000 ≤ 1048576) :
    Calls Try.prog 12 #[.pointer (some ⟨b, 0, none⟩), u, .agg #[.int .u8 kd, .int .u64 x0, .int .u64 x1, .int .u64 x2, .int .u64 x3, .slice a n cap]] W fun e w' => ∃ v' u', e = .returned (.tuple #[.pointer (some ⟨b, 0, none⟩), u']) ∧ LO w0 w' b v' u' (p ++ layN (val x0 x1 x2 x3)) (q ++ layN (val x0 x1 x2 x3)) := by
  have hJ := h.box #[.int .u8 kd, .int .u64 x0, .int .u64 x1, .int .u64 x2, .int .u64 x3, .slice a n cap] []
  have hkt : kd.tmod 6 = 4 := by rw [Int.tmod_eq_emod_of_nonneg hk.1]; exact hr
  have hlx : 0 ≤ x0 ∧ x0 < 18446744073709551616 := hx.1
  go_enter Try.func12, Try.ntmps12
  go_wp2
  go_region_held2 (fun Y => Y.cell? ⟨W.heap.size, 1, none⟩ = some (.int .u64 x0) ∧ Y.cell? ⟨W.heap.size, 2, none⟩ = some (.int .u64 x1) ∧ Y.cell? ⟨W.heap.size, 3, none⟩ = some (.int .u64 x2) ∧ Y.cell? ⟨W.heap.size, 4, none⟩ = some (.int .u64 x3)) (exact ⟨LJ.at (by first | assumption | exact LJ.drew (by assumption)) 1 _ rfl, LJ.at (by first | assumption | exact LJ.drew (by assumption)) 2 _ rfl, LJ.at (by first | assumption | exact LJ.drew (by assumption)) 3 _ rfl, LJ.at (by first | assumption | exact LJ.drew (by assumption)) 4 _ rfl⟩) (first
    | (go_at_call 30; refine Calls.mono (LJ.sNum x0 x1 x2 x3 hx (by first | assumption | exact LJ.drew (by assumption)) (by omega)) ?_; rintro e w1 ⟨rfl, v1, hJ1⟩)
    | (go_at_call 37; refine Calls.mono (LJ.made (by first | assumption | exact LJ.drew (by assumption)) (numR4_any x0 x1 x2 x3 hx _)) ?_; rintro e w1 ⟨y1, rfl, hJ1⟩)
    | (rw [if_pos (by rfl)]; refine LJ.app (by first | assumption | exact LJ.drew (by assumption)) (by simp [layN]) (by have := layN_len (val x0 x1 x2 x3); omega) _ _ rfl rfl rfl ?_; intro u1 w1 hJ1))
  all_goals go_wp2
  all_goals go_ret2
  all_goals exact ⟨_, _, rfl, LJ.out (by assumption)⟩

set_option maxRecDepth 10000 in
set_option maxHeartbeats 4000000 in
theorem lay_5 {w0 W : World} {b : Nat} {v u : Value} {p q : List Int} (kd x0 x1 x2 x3 : Int) (a : Option Addr) (n cap : Nat) (hk : 0 ≤ kd ∧ kd ≤ 255) (hr : kd % 6 = 5) (hx : Lim x0 x1 x2 x3) (h : LO w0 W b v u p q) (hl : p.length + 9000 ≤ 1048576) (hl2 : q.length + 9000 ≤ 1048576) {L : List Cn} (hC : Hid (∀ X, Below w0.heap.size w0 X → IsCoins X (.slice a n cap) L)) (hwf : ∀ x ∈ L, CnWf x) :
    Calls Try.prog 12 #[.pointer (some ⟨b, 0, none⟩), u, .agg #[.int .u8 kd, .int .u64 x0, .int .u64 x1, .int .u64 x2, .int .u64 x3, .slice a n cap]] W fun e w' => ∃ v' u', e = .returned (.tuple #[.pointer (some ⟨b, 0, none⟩), u']) ∧ LO w0 w' b v' u' (p ++ (((lst (ofP L) 8).length : Int) :: layL (lst (ofP L) 8))) (q ++ (((lst (ofP L) 8).length : Int) :: layL (lst (ofP L) 8))) := by
  have hJ := h.box #[.int .u8 kd, .int .u64 x0, .int .u64 x1, .int .u64 x2, .int .u64 x3, .slice a n cap] (lst (ofP L) 8)
  have hwf5 : ∀ x ∈ lst (ofP L) 8, CnWf x := lst_wf (purse_of L (fun x hx => (hwf x hx).2))
  have hln5 : (lst (ofP L) 8).length ≤ 255 := by have := lst_len (ofP L) 8; omega
  have hlay5 := layL_len (lst (ofP L) 8)
  have hkt : kd.tmod 6 = 5 := by rw [Int.tmod_eq_emod_of_nonneg hk.1]; exact hr
  have hlx : 0 ≤ x0 ∧ x0 < 18446744073709551616 := hx.1
  go_enter Try.func12, Try.ntmps12
  go_wp2
  go_region_held2 (fun Y => Y.cell? ⟨W.heap.size, 5, none⟩ = some (.slice a n cap)) (exact LJ.at (by first | assumption | exact LJ.drew (by assumption)) 5 _ rfl) (first
    | (go_at_call 21; refine Calls.mono (LJ.sCoins (by first | assumption | exact LJ.drew (by assumption)) (by simp) hwf5 hln5 (by omega)) ?_; rintro e w1 ⟨rfl, v1, hJ1⟩)
    | (go_at_call 39; refine Calls.mono (LJ.mCoins (by first | assumption | exact LJ.drew (by assumption)) (by simp) hwf5 hln5) ?_; rintro e w1 ⟨y1, rfl, hJ1⟩)
    | (go_at_call 38; refine Calls.mono (LJ.coined (by first | assumption | exact LJ.drew (by assumption)) (of4_any _ (hC.out _ (LJ.below (by first | assumption | exact LJ.drew (by assumption)))) hwf)) ?_; rintro e w1 ⟨z1, rfl, hJ1⟩)
    | (rw [if_pos (by rfl)]; refine LJ.app (by first | assumption | exact LJ.drew (by assumption)) (by simp) (by rw [List.length_cons]; omega) _ _ rfl rfl rfl ?_; intro u1 w1 hJ1))
  all_goals go_wp2
  all_goals go_ret2
  all_goals exact ⟨_, _, rfl, LJ.out (by assumption)⟩
end Go.Proofs.Ytoikklbnbgoecaa
