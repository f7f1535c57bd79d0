
/- For any plan that is made of anything, and any number, jointurelaw06.PlanBytes returns true and writes nothing that was there: a plan's bytes are those of the document, and what is read of them is the plan. No condition. -/
import Derived.Test.YtjhjgncnadhbhaaQB10
import Derived.Deep.CutRange
set_option linter.unusedSimpArgs false
set_option linter.unusedVariables false
set_option maxRecDepth 20000
namespace Go.Proofs.Ytjhjgncnadhbhaa
open Go.ChangeShapes Go.WideShapes Go.ChangeAt Go.RowKit

theorem sameQ6 {X : World} {k s t : Int} {a1 a2 a3 a4 : Option Addr} {n1 c1 n2 c2 n3 c3 n4 c4 : Nat} {al : List Cn} {pl ql : List Pd} (hB : pnB ⟨k, s, t, .slice a3 n3 c3, .slice a4 n4 c4, al, ql⟩ ⟨k, s, t, .slice a1 n1 c1, .slice a2 n2 c2, al, pl⟩ = true) (hx : PnAt X ⟨k, s, t, .slice a3 n3 c3, .slice a4 n4 c4, al, ql⟩) (hy : PnAt X ⟨k, s, t, .slice a1 n1 c1, .slice a2 n2 c2, al, pl⟩) :
    Calls Try.prog 10 #[.agg #[.int .u8 k, .int .u64 s, .int .u64 t, .slice a3 n3 c3, .slice a4 n4 c4], .agg #[.int .u8 k, .int .u64 s, .int .u64 t, .slice a1 n1 c1, .slice a2 n2 c2]] X fun e w' => e = .returned (.bool true) ∧ Below X.heap.size X w' := by
  have := sameR6_any hx hy
  rw [hB] at this
  exact this
set_option maxRecDepth 20000 in
set_option maxHeartbeats 16000000 in
theorem planBytes_any {w : World} (y : Md) (nn : Int) (hy : MdIn w y) (hnn : 0 ≤ nn ∧ nn < 18446744073709551616) :
    Calls Try.prog 4 #[mdV y, .int .u64 nn] w fun e w' => e = .returned (.bool true) ∧ Below w.heap.size w w' := by
  have hFew : Hid (∀ X, Below w.heap.size w X → Calls Try.prog 7 #[mdV y] X fun e w' => e = .returned (.bool (fewM y)) ∧ Below X.heap.size X w') := fun X hX => few6_any hy X hX
  have hPl : Hid (fewM y = true → ∀ X, Below w.heap.size w X → Calls Try.prog 8 #[mdV y] X fun e w' => ∃ (k s u : Int) (a1 : Option Addr) (n1 c1 : Nat) (a2 : Option Addr) (n2 c2 : Nat) (x : Pn), e = .returned (.agg #[.int .u8 k, .int .u64 s, .int .u64 u, .slice a1 n1 c1, .slice a2 n2 c2]) ∧ Hid (x = ⟨k, s, u, .slice a1 n1 c1, .slice a2 n2 c2, x.al, x.pl⟩) ∧ Hid (MF w' x) ∧ Below X.heap.size X w') := fun hf X hX => plansS_any hy hf X hX
  clear hy
  obtain ⟨k, s, n, a1, n1, c1, a2, n2, c2, l, ps⟩ := y
  generalize hF : fewM ⟨k, s, n, a1, n1, c1, a2, n2, c2, l, ps⟩ = F at *
  clear hF
  show Calls Try.prog 4 #[.agg #[.int .u8 k, .int .u32 s, .int .u16 n, .slice a1 n1 c1, .slice a2 n2 c2], .int .u64 nn] w _
  have hFew : Hid (∀ X, Below w.heap.size w X → Calls Try.prog 7 #[.agg #[.int .u8 k, .int .u32 s, .int .u16 n, .slice a1 n1 c1, .slice a2 n2 c2]] X fun e w' => e = .returned (.bool F) ∧ Below X.heap.size X w') := hFew
  have hPl : Hid (F = true → ∀ X, Below w.heap.size w X → Calls Try.prog 8 #[.agg #[.int .u8 k, .int .u32 s, .int .u16 n, .slice a1 n1 c1, .slice a2 n2 c2]] X fun e w' => ∃ (k s u : Int) (a1 : Option Addr) (n1 c1 : Nat) (a2 : Option Addr) (n2 c2 : Nat) (x : Pn), e = .returned (.agg #[.int .u8 k, .int .u64 s, .int .u64 u, .slice a1 n1 c1, .slice a2 n2 c2]) ∧ Hid (x = ⟨k, s, u, .slice a1 n1 c1, .slice a2 n2 c2, x.al, x.pl⟩) ∧ Hid (MF w' x) ∧ Below X.heap.size X w') := hPl
  have hb0 : Below w.heap.size w (w.alloc (.cells #[.int .u8 k, .int .u32 s, .int .u16 n, .slice a1 n1 c1, .slice a2 n2 c2] 27)) := ba (Below.refl _ _) _
  have hkeep : Hid (∀ X, Below (w.alloc (.cells #[.int .u8 k, .int .u32 s, .int .u16 n, .slice a1 n1 c1, .slice a2 n2 c2] 27)).heap.size (w.alloc (.cells #[.int .u8 k, .int .u32 s, .int .u16 n, .slice a1 n1 c1, .slice a2 n2 c2] 27)) X → X.cell? ⟨w.heap.size, 0, none⟩ = some (.int .u8 k) ∧ X.cell? ⟨w.heap.size, 1, none⟩ = some (.int .u32 s) ∧ X.cell? ⟨w.heap.size, 2, none⟩ = some (.int .u16 n) ∧ X.cell? ⟨w.heap.size, 3, none⟩ = some (.slice a1 n1 c1) ∧ X.cell? ⟨w.heap.size, 4, none⟩ = some (.slice a2 n2 c2)) := fun X hX => by
    have q1 := (cells_of_block ((hX.block w.heap.size (by simp)).trans (al_at rfl))).1
    exact ⟨q1 0, q1 1, q1 2, q1 3, q1 4⟩
  cases F
  · clear hPl
    go_enter Try.func4, Try.ntmps4
    go_wp2_with (first
      | (go_at_call 7; refine (hFew.out _ (bt hb0 hb1)).mono ?_; rintro e w2 ⟨rfl, hb2⟩)
      | (go_at_call 6; with_reducible refine (even_any (w.alloc (.cells #[.int .u8 k, .int .u32 s, .int .u16 n, .slice a1 n1 c1, .slice a2 n2 c2] 27))).mono ?_; rintro e w1 ⟨rfl, hb1⟩; obtain ⟨q0, q1, q2, q3, q4⟩ := hkeep.out _ hb1)
      | (go_at_call 6; with_reducible refine (even_any w2).mono ?_; rintro e w3 ⟨rfl, hb3⟩))
    go_ret
    exact ⟨rfl, bt (bt (bt hb0 hb1) hb2) hb3⟩
  have hPl2 : Hid (∀ X, _) := fun X => hPl.out rfl X
  go_enter Try.func4, Try.ntmps4
  go_upto_region 4 with (first
    | (go_at_call 7; refine (hFew.out _ (bt hb0 hb1)).mono ?_; rintro e w2 ⟨rfl, hb2⟩; obtain ⟨r0, r1, r2, r3, r4⟩ := hkeep.out _ (bt hb1 hb2))
    | (go_at_call 6; refine (even_any _).mono ?_; rintro e w1 ⟨rfl, hb1⟩; obtain ⟨q0, q1, q2, q3, q4⟩ := hkeep.out _ hb1)
    | (go_at_call 8; refine (hPl2.out _ (bt (bt hb0 hb1) hb2)).mono ?_; rintro e w3 ⟨pk, p0, p1, b1, m1, d1, b2, m2, d2, x, rfl, hx, hMF, hb3⟩))
  have hW3 : Below w.heap.size w w3 := bt (bt (bt hb0 hb1) hb2) hb3
  clear hFew hPl hPl2 hkeep hb0 hb1 hb2 hb3 q0 q1 q2 q3 q4 r0 r1 r2 r3 r4
  obtain ⟨xk, xs, xe, xav, xpv, al, pl⟩ := x
  have hx' := hx.out
  simp only [Pn.mk.injEq] at hx'
  obtain ⟨rfl, rfl, rfl, rfl, rfl, -, -⟩ := hx'
  clear hx
  have hok := hMF.out.ok
  have hrb := hMF.out.rb
  have hat := hid_of hMF.out.at'
  clear hMF
  have hlo := layOk hok (right_facts hrb)
  obtain ⟨PB, hPB⟩ : ∃ PB, Hid (PB = pB ⟨xk, xs, xe, .slice b1 m1 d1, .slice b2 m2 d2, al, pl⟩) := ⟨_, rfl⟩
  have hPBl : PB.length ≤ 5000 := by rw [hPB.out]; exact pB_len hlo
  have hPBr : Hid (∀ y ∈ PB, 0 ≤ y ∧ y ≤ 255) := by rw [hPB.out]; exact pB_rng hlo
  have hPBn : Hid (PB ≠ []) := by rw [hPB.out]; simp [Hid, pB]
  clear hlo
  obtain ⟨Z, hZ⟩ : ∃ Z, Z = w3.alloc (.cells #[.int .u8 xk, .int .u64 xs, .int .u64 xe, .slice b1 m1 d1, .slice b2 m2 d2] 33) := ⟨_, rfl⟩
  have hZs : Z.heap.size = w3.heap.size + 1 := by rw [hZ]; simp
  have hWZ : Below w3.heap.size w3 Z := by rw [hZ]; exact ba (Below.refl _ _) _
  have hZb : Z.heap[w3.heap.size]? = some (.cells #[.int .u8 xk, .int .u64 xs, .int .u64 xe, .slice b1 m1 d1, .slice b2 m2 d2] 33 (0, 0)) := by rw [hZ]; exact al_at rfl
  have hkp : Hid (∀ X, Below Z.heap.size Z X → (X.cell? ⟨w3.heap.size, 0, none⟩ = some (.int .u8 xk) ∧ X.cell? ⟨w3.heap.size, 1, none⟩ = some (.int .u64 xs) ∧ X.cell? ⟨w3.heap.size, 2, none⟩ = some (.int .u64 xe) ∧ X.cell? ⟨w3.heap.size, 3, none⟩ = some (.slice b1 m1 d1) ∧ X.cell? ⟨w3.heap.size, 4, none⟩ = some (.slice b2 m2 d2)) ∧ PnAt X ⟨xk, xs, xe, .slice b1 m1 d1, .slice b2 m2 d2, al, pl⟩ ∧ Below w3.heap.size w3 X) := fun X hX => by
    obtain ⟨c, f⟩ := cells_of_block ((hX.block w3.heap.size (by omega)).trans hZb)
    have hb := hWZ.trans (hX.mono (by omega))
    exact ⟨⟨c 0, c 1, c 2, c 3, c 4⟩, hat.out.below hb, hb⟩
  rw [← hZ]
  have hZh : Hid (Z.heap.size = w3.heap.size + 1) := hZs
  have hz3 : Hid (w3.heap.size ≤ Z.heap.size) := by show _ ≤ _; omega
  clear hZ hZs hZb hWZ
  have hW0 : WrAt (Z.alloc (.cells #[.slice none 0 0] 44)) Z.heap.size Z.heap.size (.slice none 0 0) [] := ⟨al_at rfl, World.ownsRow_nil _ _ _ _⟩
  have hB0 : Below Z.heap.size Z (Z.alloc (.cells #[.slice none 0 0] 44)) := ba (Below.refl _ _) _
  have g0 : Z.heap.size ≤ (Z.alloc (.cells #[.slice none 0 0] 44)).heap.size := hB0.size
  obtain ⟨⟨x0, x1, x2, x3, x4⟩, hA0, hV0⟩ := hkp.out _ hB0
  have hbl : Hid (∀ n, (be n 8).length = 8) := fun n => be_len n 8
  obtain ⟨Q, hQ⟩ : ∃ Q, Hid (Q = be nn 8 ++ PB ++ be nn 8) := ⟨_, rfl⟩
  have hq : Hid ([] ++ be nn 8 ++ PB ++ be nn 8 = Q) := by rw [hQ.out]; simp [Hid]
  have hQl : Q.length ≤ 10000 := by rw [hQ.out]; simp only [List.length_append, hbl.out]; omega
  have hQr : ∀ y ∈ Q, 0 ≤ y ∧ y ≤ 255 := by
    intro y hy
    rw [hQ.out] at hy
    rcases List.mem_append.1 hy with hy | hy
    · rcases List.mem_append.1 hy with hy | hy
      · exact be_rng _ _ y hy
      · exact hPBr.out y hy
    · exact be_rng _ _ y hy
  have hQr := hid_of hQr
  go_upto_region 9 with (first
    | (go_at_call 16; (with_reducible refine (wLong_any nn hnn hW0 g0 (by simp)).mono ?_; rintro e w4 ⟨rfl, v4, hW4, hF4⟩; have hB4 := WF.low hB0 hF4 hW0 (Nat.le_refl _) (Nat.le_refl _); obtain ⟨⟨y0, y1, y2, y3, y4⟩, hA4, hV4⟩ := hkp.out _ hB4))
    | (go_at_call 17; (with_reducible refine (layK hok hrb hPB hat.out hV4 hz3.out hz3.out hW4 hB4.size (by (rw [List.length_append, hbl.out]; simp))).mono ?_; rintro e w5 ⟨rfl, v5, hW5, hF5⟩; have hB5 := WF.low hB4 hF5 hW4 (Nat.le_refl _) (Nat.le_refl _)))
    | (go_at_call 16; (with_reducible refine (wLong_any nn hnn hW5 hB5.size (by (simp only [List.length_append, hbl.out, List.length_nil]; omega))).mono ?_; rintro e w6 ⟨rfl, v6, hW6, hF6⟩; have hB6 := WF.low hB5 hF6 hW5 (Nat.le_refl _) (Nat.le_refl _)))
    | (go_at_call 18; (with_reducible refine (wDone_any hW6 (by (simp only [List.length_append, hbl.out, List.length_nil]; omega))).mono ?_; rintro e w7 ⟨u7, rfl, ho7, hb7⟩; have hB7 := bt hB6 hb7; rw [hq.out] at ho7; obtain ⟨a7, c7, rfl⟩ := row_slice ho7)))
  clear hq hW0 hW4 hW5 hW6 hF4 hF5 hF6 hB0 hB4 hB5 hB6 hb7 x0 x1 x2 x3 x4 y0 y1 y2 y3 y4 hA0 hV0 hA4 hV4 g0
  go_upto_region 10 with (go_at_call 19; (with_reducible refine (read_new (Nat.le_trans hQl (by decide)) hQr.out (src_own ho7)).mono ?_; rintro e w8 ⟨rb, D, rfl, hR8, hrb8, hD, hDl, hb8⟩))
  have hB8 : Below Z.heap.size Z w8.drew := bd (bt hB7 hb8)
  have hrow := none_row ho7 (grown_none hb8)
  have hZ7 : Z.heap.size ≤ w7.heap.size := hB7.size
  have hZr : Hid (Z.heap.size ≤ rb) := Nat.le_trans hZ7 hrb8
  have hDl8 : ∀ d, D = some d → d < w8.heap.size := fun d hd => (hDl d hd).2
  have hQ2 : Q = be nn 8 ++ (PB ++ (be nn 8 ++ [])) := by rw [hQ.out]; simp
  have hR8' : RdAt w8 rb D (some (be nn 8 ++ (PB ++ (be nn 8 ++ [])))) := by rw [← hQ2]; exact hR8
  have hR8' := hid_of (hR8'.kept (grown_dr (grown_ref w8 none)) (by simp) (by cases D <;> simp))
  have hrow := hid_of (none_row hrow (grown_dr (grown_ref w8 none)))
  obtain ⟨⟨x0, x1, x2, x3, x4⟩, hA8, hV8⟩ := hkp.out _ hB8
  have l1 := hid_of (show (be nn 8).length + PB.length ≤ 100000 by rw [hbl.out]; omega)
  have l2 := hid_of (show (be nn 8 ++ PB).length + (be nn 8).length ≤ 100000 by rw [List.length_append, hbl.out]; omega)
  have hne : Hid (be nn 8 ++ PB ≠ []) := by simp [Hid, be]
  clear hQ2 ho7 hrb8 hZ7 hDl hR8 hb8 hB7 hat
  go_region_held2 (fun X => X.cell? ⟨w3.heap.size, 0, none⟩ = some (.int .u8 xk) ∧ X.cell? ⟨w3.heap.size, 1, none⟩ = some (.int .u64 xs) ∧ X.cell? ⟨w3.heap.size, 2, none⟩ = some (.int .u64 xe) ∧ X.cell? ⟨w3.heap.size, 3, none⟩ = some (.slice b1 m1 d1) ∧ X.cell? ⟨w3.heap.size, 4, none⟩ = some (.slice b2 m2 d2)) (go_simp) (first
    | (go_at_call 22; (with_reducible refine (long8 nn hnn w8.drew).mono ?_; rintro e w9 ⟨u9, rfl, ho9, hb9⟩; have hB9 := bt hB8 hb9; obtain ⟨⟨y0, y1, y2, y3, y4⟩, hA9, hV9⟩ := hkp.out _ hB9))
    | (go_at_call 23; (with_reducible refine (bytesK hok hrb hPB hA9).mono ?_; rintro e w10 ⟨u10, rfl, ho10, hb10⟩; have hB10 := bt hB9 hb10; obtain ⟨⟨z0, z1, z2, z3, z4⟩, hA10, hV10⟩ := hkp.out _ hB10; have r9 := none_row ho9 (grown_none hb10)))
    | (go_at_call 21; (with_reducible refine (join2_any r9 ho10 (be8_ne _) hPBn.out l1.out).mono ?_; rintro e w11 ⟨u11, rfl, ho11, hb11⟩; have hB11 := bt hB10 hb11; obtain ⟨⟨s0, s1, s2, s3, s4⟩, hA11, hV11⟩ := hkp.out _ hB11))
    | (go_at_call 22; (with_reducible refine (long8 nn hnn w11).mono ?_; rintro e w12 ⟨u12, rfl, ho12, hb12⟩; have hB12 := bt hB11 hb12; obtain ⟨⟨t0, t1, t2, t3, t4⟩, hA12, hV12⟩ := hkp.out _ hB12; have r11 := none_row ho11 (grown_none hb12)))
    | (go_at_call 21; (with_reducible refine (join2_any r11 ho12 hne.out (be8_ne _) l2.out).mono ?_; rintro e w13 ⟨u13, rfl, ho13, hb13⟩; have hB13 := bt hB12 hb13; obtain ⟨⟨v0, v1, v2, v3, v4⟩, hA13, hV13⟩ := hkp.out _ hB13; rw [← hQ.out] at ho13; have hb8' := bt hb9 (bt hb10 (bt hb11 (bt hb12 hb13))); have r13 := none_row hrow.out (grown_none hb8')))
    | (go_at_call 20; (with_reducible refine (sameQ hQl r13 ho13).mono ?_; rintro e w14 ⟨rfl, hb14⟩; have hB14 := bt hB13 hb14; obtain ⟨⟨q0, q1, q2, q3, q4⟩, hA14, hV14⟩ := hkp.out _ hB14; have hR14 := hR8'.out.nn (grown_none (bt hb8' hb14))))
    | (go_at_call 24; (with_reducible refine (rdLong hnn hD hR14).mono ?_; rintro e w15 ⟨rfl, hR15, k15⟩; have hB15 := below_grown hB14 k15 hZr.out; obtain ⟨⟨o0, o1, o2, o3, o4⟩, hA15, hV15⟩ := hkp.out _ hB15)))
  all_goals
    have hD15 : ∀ d, D = some d → d < w15.heap.size := fun d hd => Nat.lt_of_lt_of_le (hDl8 d hd) (Nat.le_trans (show w8.heap.size ≤ w14.heap.size from (bt hb8' hb14).size) k15.size)
    clear hR14 hrow r9 r11 r13 ho9 ho10 ho11 ho12 ho13 hb9 hb10 hb11 hb12 hb13 hb14 hb8' y0 y1 y2 y3 y4 z0 z1 z2 z3 z4 s0 s1 s2 s3 s4 t0 t1 t2 t3 t4 v0 v1 v2 v3 v4 q0 q1 q2 q3 q4 x0 x1 x2 x3 x4 hA8 hA9 hA10 hA11 hA12 hA13 hA14 hB9 hB10 hB11 hB12 hB13 hV8 hV9 hV10 hV11 hV12 hV13 hV14 hR8' l1 l2
    go_upto_region 13 with (go_at_call 25; (with_reducible refine (takeK hok hrb hPB hD hD15 hR15).mono ?_; rintro e w16 ⟨a3, n3, c3, a4, n4, c4, ql, rfl, hA16, hpb, hR16, k16⟩; have hB16 := below_grown hB15 k16 hZr.out))
    have hBx : Hid (∀ X, Below (w16.alloc (.cells #[.int .u8 xk, .int .u64 xs, .int .u64 xe, .slice a3 n3 c3, .slice a4 n4 c4] 33)).heap.size (w16.alloc (.cells #[.int .u8 xk, .int .u64 xs, .int .u64 xe, .slice a3 n3 c3, .slice a4 n4 c4] 33)) X → (X.cell? ⟨w16.heap.size, 0, none⟩ = some (.int .u8 xk) ∧ X.cell? ⟨w16.heap.size, 1, none⟩ = some (.int .u64 xs) ∧ X.cell? ⟨w16.heap.size, 2, none⟩ = some (.int .u64 xe) ∧ X.cell? ⟨w16.heap.size, 3, none⟩ = some (.slice a3 n3 c3) ∧ X.cell? ⟨w16.heap.size, 4, none⟩ = some (.slice a4 n4 c4)) ∧ PnAt X ⟨xk, xs, xe, .slice a3 n3 c3, .slice a4 n4 c4, al, ql⟩ ∧ Below Z.heap.size Z X) := fun X hX => by
      obtain ⟨c, f⟩ := cells_of_block ((hX.block w16.heap.size (by simp)).trans (al_at rfl))
      exact ⟨⟨c 0, c 1, c 2, c 3, c 4⟩, hA16.out.below (bt (ba (Below.refl _ _) _) hX), bt (ba hB16 _) hX⟩
    have hR17 := hR16.nn (World.grownBy_alloc w16 (.cells #[.int .u8 xk, .int .u64 xs, .int .u64 xe, .slice a3 n3 c3, .slice a4 n4 c4] 33) none)
    generalize hU : w16.alloc (.cells #[.int .u8 xk, .int .u64 xs, .int .u64 xe, .slice a3 n3 c3, .slice a4 n4 c4] 33) = U at *
    have hUh : Hid _ := hU
    clear hU hA16 hR16 k16 hR15 k15 hB15 hB14 o0 o1 o2 o3 o4 hA15 hV15 hB16
    obtain ⟨⟨x0, x1, x2, x3, x4⟩, hAx, hZU⟩ := hBx.out U (Below.refl _ _)
    obtain ⟨⟨y0, y1, y2, y3, y4⟩, hAy, hVU⟩ := hkp.out U hZU
    go_wp2_with (first
      | (go_at_call 26; (with_reducible refine (sameP hpb.out hAx hAy).mono ?_; rintro e w17 ⟨rfl, hb17⟩; obtain ⟨⟨p0, p1, p2, p3, p4⟩, hAx7, hZ17⟩ := hBx.out _ hb17; obtain ⟨⟨z0, z1, z2, z3, z4⟩, hAy7, hV17⟩ := hkp.out _ hZ17))
      | (go_at_call 10; (with_reducible refine (sameQ6 hpb.out hAx7 hAy7).mono ?_; rintro e w18 ⟨rfl, hb18⟩; have hR18 := hR17.nn (grown_none (bt hb17 hb18)); have hZ18 := bt hZ17 hb18))
      | (go_at_call 24; (with_reducible refine (rdLong hnn hD hR18).mono ?_; rintro e w19 ⟨rfl, hR19, k19⟩; have hZ19 := below_grown hZ18 k19 hZr.out; obtain ⟨-, -, hV19⟩ := hkp.out _ hZ19))
      | (go_at_call 27; (with_reducible refine (endK hR19).mono ?_; rintro e w20 ⟨rfl, hw20⟩; obtain rfl := hw20.symm; clear hw20)))
    go_ret
    exact ⟨rfl, bt hW3 hV19⟩

theorem planBytes_own : ownKnob Try.prog.godebug = none := by kernel_rfl
theorem planBytes_laid : laidOutB Try.prog = true := by kernel_rfl

set_option maxRecDepth 100000 in
theorem planBytes_lifted (os : Os) (started : os.Started) (H : Type) (enc : TypeId × Value → H) :
    ReturnsInHanded {} Try.checked os 4 .any (Rows.planBytesSpec.pre6 enc Try.prog Try.f4 Rows.planBytesRow.domain false) (Rows.planBytesSpec.post enc Try.prog Try.f4 false true false false) := by
  refine returnsInHanded_of_change (C := Try.checked) planBytes_own started (by kernel_rfl) Try.func4
    (ChangeSpec.witness6 (enc := enc) (C := Try.checked) false ⟨#[], #[.agg #[.int .u8 0, .int .u32 0, .int .u16 0, .slice none 0 0, .slice none 0 0], .int .u64 0], []⟩ 8 (by kernel_rfl) (by kernel_rfl) (by kernel_rfl) (by kernel_rfl)) ?_
  intro W base args ds gs before hval0 hW hcnd _
  have hval : ∀ (j : Nat) t v, Try.f4.params[j]? = some t → args[j]? = some v → Value.okWide Try.prog W .any base t v := hval0
  have hW' := hW
  obtain ⟨p, q, hA0, hV, rfl, hfz, hnd⟩ := hW
  have hA : DataW.TrodAll enc Try.prog W 0 (fun _ => true) true Try.f4.params.toList args.toList ds p := hA0
  rw [Try.params4] at hA hval
  obtain ⟨v0, vs0, d0, ds0, p0, q0, hargs0, rfl, rfl, h0, r0⟩ := trodAll_cons hA
  obtain ⟨v1, vs1, d1, ds1, p1, q1, hargs1, rfl, rfl, h1, r1⟩ := trodAll_cons r0
  obtain ⟨rfl, rfl, rfl⟩ := trodAll_nil r1
  obtain rfl : args = #[v0, v1] := by cases args; simp_all
  obtain ⟨rfl, rfl⟩ := trodVars_none hV
  have k0 := h0
  have lt0 : ∀ x ∈ p0, x.block < W.heap.size := by obtain ⟨m, hm⟩ := k0; exact DataW.trod_lt m _ _ _ hm
  have k1 := h1
  have lt1 : ∀ x ∈ p1, x.block < W.heap.size := by obtain ⟨m, hm⟩ := k1; exact DataW.trod_lt m _ _ _ hm
  obtain ⟨y0, rfl, hl0⟩ := made_in (hval 0 27 v0 rfl rfl) h0
  obtain ⟨n1, rfl⟩ := okWide_int Try.underlying28 (hval 1 28 v1 rfl rfl)
  obtain ⟨fuel1, hf1⟩ := h1
  simp only [Value.cells] at hf1
  clear hA0 hval0
  have walk : Calls Try.prog 4 _ W fun e w' => e = .returned (.bool true) ∧ Below W.heap.size W w' := planBytes_any y0 n1 hl0 (u64_in hf1)
  refine walk.mono fun e W' ⟨he, bel⟩ => ?_
  subst he
  exact ⟨_, rfl, _, _, _, [], _, [], hW', trodAll_mk1 (shut_bool Try.underlying4 _), trodAll_cons_mk (Below.trod planBytes_laid (by kernel_rfl) (of_decide_eq_true (by kernel_rfl)) k0 bel lt0) (trodAll_cons_mk (Below.trod planBytes_laid (by kernel_rfl) (of_decide_eq_true (by kernel_rfl)) k1 bel lt1) (trodAll_mk0)), rfl, bel.frame _, fun h => by cases h⟩

theorem planBytes_holds : Rows.PlanBytesSaid :=
  OpenClaim.holds_of_wide 4 Try.f4 rfl rfl rfl rfl rfl rfl rfl ⟨rfl, rfl, rfl, rfl, rfl⟩ rfl rfl rfl rfl rfl (by kernel_rfl) Try.func4 (by kernel_rfl)
    (of_decide_eq_true (by kernel_rfl)) (by unfold Func.isWrapper; first | (rw [if_pos (by decide +kernel)]; kernel_rfl) | (rw [if_neg (by decide +kernel)]; exact ⟨rfl, rfl⟩))
    (fun os started H enc _ => planBytes_lifted os started H enc)
#print axioms planBytes_holds

end Go.Proofs.Ytjhjgncnadhbhaa
