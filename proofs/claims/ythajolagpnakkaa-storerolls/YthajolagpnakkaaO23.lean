
/- jointurelaw05.same: has a store just what the document's has? -/
import Derived.Test.YthajolagpnakkaaO22
import Derived.Test.YthajolagpnakkaaO13
set_option linter.unusedSimpArgs false
set_option linter.unusedVariables false
namespace Go.Proofs.Ythajolagpnakkaa
open Go.RowKit

theorem keysA {r : List Rec} {i : Nat} {f : Bool} (h : FindS r [] i f) : runS (r.drop i) [] = r.map (·.k) := by
  have h0 : i = 0 := by
    rcases Nat.eq_zero_or_pos i with h0 | h0
    · exact h0
    · have hl := h.le
      have := h.lo 0 _ h0 (List.getElem?_eq_getElem (show 0 < r.length by omega))
      cases hk : r[0].k with
      | nil => rw [hk] at this; simp [cmpB] at this
      | cons x l => rw [hk] at this; simp [cmpB] at this
  subst h0
  rw [List.drop_zero, runS_stop (m := r.length) (fun x _ => by simp [begs]) (.inl rfl), List.take_length]
theorem StC.dn {W : World} {s base : Nat} {A : Nat → Prop} {vp vj vb : Value} {r : List Rec} {j : List Was} {b : List Nat} (h : StC W s base A vp vj vb r j b) (q : Nat) : StC (W.drewN q) s base A vp vj vb r j b := h.kept (fun _ _ => rfl) (Nat.le_refl _)
theorem Own.isB {W : World} {g : Nat} {v : Value} {q : List Int} (h : Own W g v q) (hl : q.length ≤ 1048576) : IsBytes W v q := by
  obtain ⟨rfl, hb⟩ := h
  refine .inr ⟨g, 0, q.length, rfl, by omega, (Array.getElem?_eq_some_iff.1 hb).1, fun i x hi => ?_⟩
  rw [(cells_of_block hb).1]; simp [encB, hi]
theorem getS_at {l : List Rec} (h : Srt l) {i : Nat} (hi : i < l.length) : getS (cont l) l[i].k = some l[i].v := by
  refine getS_first (List.getElem?_eq_getElem hi) rfl (fun z hz e => ?_)
  obtain ⟨n, hn, rfl⟩ := List.mem_iff_getElem.1 hz
  rw [List.length_take] at hn
  rw [List.getElem_take] at e
  have := srt_at h (List.getElem?_eq_getElem (show n < l.length by omega)) (List.getElem?_eq_getElem hi) (by omega)
  rw [e, cmp_self] at this
  omega
/-- A key's cell. -/
theorem key_at {W : World} {base : Nat} {v : Value} {ks : List (Value × List Int)} {i : Nat} (h : KeysAt W base v ks) (hi : i < ks.length) : ∃ g cap, v = .slice (some ⟨g, 0, none⟩) ks.length cap ∧ g < W.heap.size ∧ W.cell? ⟨g, i, none⟩ = some ks[i].1 := by
  rcases h.row.2 with ⟨_, h0⟩ | ⟨g, cap, cur, rfl, h1, h2, h3⟩
  · omega
  · have hc := World.ownsRow.cellAt h.row i (by omega)
    rw [List.getElem?_map, List.getElem?_eq_getElem hi] at hc
    exact ⟨g, cap, rfl, (Array.getElem?_eq_some_iff.1 h2).1, hc⟩
set_option maxRecDepth 10000 in
set_option maxHeartbeats 8000000 in
theorem sameD_any {W : World} {s m base base' : Nat} {A B : Nat → Prop} {L : List (List Int × List Int)} {ds : List (List (List Int × List Int))} {n n2 : Nat} (h : StD W s base A L ds n) (hR : RD W m base' B L ds n2) (hn : n ≤ 1000) (hn2 : n2 ≤ 1000) :
    Calls Try.prog 15 #[.pointer (some ⟨s, 0, none⟩), .pointer (some ⟨m, 0, none⟩)] W fun e w' => e = .returned (.bool true) ∧ Below W.heap.size W w' := by
  obtain ⟨vp, vj, vb, r, j, b, h1, h2, h3, h4, h5, h6, h7, h8⟩ := h
  obtain ⟨C, vl, vw, ws, l, was, g1, g2, g3, g4, g5, g6, g7⟩ := hR
  have hrl := cont_len r
  have hll := cont_len l
  have hkk : r.map (·.k) = l.map (·.k) := by
    have e1 : r.map (·.k) = (cont r).map (·.1) := by simp [cont]
    have e2 : l.map (·.k) = (cont l).map (·.1) := by simp [cont]
    rw [e1, e2, h3, g2]
  obtain ⟨N, hN⟩ : ∃ N, l.length = N := ⟨_, rfl⟩
  obtain ⟨M, hM⟩ : ∃ M, was.length = M := ⟨_, rfl⟩
  have hrN : r.length = N := by rw [← hN, ← hrl, h3, ← g2, hll]
  have hbM : b.length = M := by rw [h4.len, ← g3, List.length_map, hM]
  have hNle : N ≤ 1000 := by rw [← hN, ← hll, g2]; omega
  have hMle : M ≤ 1000 := by rw [← hM]; have : ds.length = was.length := by rw [← g3]; simp
                             omega
  have hsl : Srt l := cont_srt (g2 ▸ g4)
  have hK := keys_any (u := .slice none 0 0) (p := []) h1 h2 (by omega) (.inl ⟨rfl, rfl⟩) (by simp [Byte]) (by simp)
  have hcr := g1.cur.row
  have hwr := g1.row
  rw [hN] at hcr
  rw [hM] at hwr
  obtain ⟨al, cl, rfl⟩ := row_slice hcr
  obtain ⟨aw, cw, rfl⟩ := row_slice hwr
  have hml := (g1.foot m g1.bm).2
  have hN' : (N : Int) ≤ 1000 := by omega
  go_enter Try.func15, Try.ntmps15
  go_wp2_with (go_at_call 23; refine hK.mono ?_; rintro e w1 ⟨kl, ks, i0, f0, rfl, hKs, hF, hks, hb1⟩; rw [keysA hF, hkk] at hks; have hkN : ks.length = N := (by have := congrArg List.length hks; simpa [hN] using this); obtain ⟨ak, ck, ek⟩ : ∃ a c, kl = .slice a N c := (by rw [← hkN]; exact row_slice hKs.row); subst ek)
  have hS1 := h1.below hb1
  obtain ⟨cm, fm⟩ := cells_of_block ((hb1.block m hml).trans g1.blk)
  have a0 : w1.cell? ⟨m, 0, none⟩ = some (.slice al N cl) := cm 0
  have a1 : w1.cell? ⟨m, 1, none⟩ = some (.slice aw M cw) := cm 1
  have hLen : ∀ q, Calls Try.prog 27 #[.pointer (some ⟨s, 0, none⟩)] (w1.drewN q) fun e w' => e = .returned (.int .i64 (N : Int)) ∧ w' = w1.drewN q := fun q => by rw [← hrN]; exact len_any (hS1.dn q)
  have hDep : ∀ q, Calls Try.prog 18 #[.pointer (some ⟨s, 0, none⟩)] (w1.drewN q) fun e w' => e = .returned (.int .i64 (M : Int)) ∧ w' = w1.drewN q := fun q => by rw [← hbM]; exact depth_any (hS1.dn q)
  clear cm fm
  go_quiet (first
    | (go_at_call 27; exact Calls.quiet_of_same (hLen _))
    | (go_at_call 18; exact Calls.quiet_of_same (hDep _)))
  go_wp2
  have hb1q : Below W.heap.size W (w1.drewN nq) := bt hb1 ⟨rfl, rfl, rfl, Nat.le_refl _, fun _ _ => rfl⟩
  have hKq : KeysAt (w1.drewN nq) W.heap.size (.slice ak N ck) ks := hKs.below ⟨rfl, rfl, rfl, Nat.le_refl _, fun _ _ => rfl⟩
  have hwz := hb1.size
  generalize w1.drewN nq = w2 at *
  clear hLen hDep a0 a1 hS1 hKs hK
  go_loopw [6] (fun iv X => ∃ (i : Nat), i ≤ N ∧ iv = .int .i64 (i : Int) ∧ Below W.heap.size W X ∧ KeysAt X W.heap.size (.slice ak N ck) ks) (fun iv _ => N - (intOf iv).toNat)
  case atStart => exact ⟨0, by omega, rfl, hb1q, hKq⟩
  case round =>
    clear hb1q hKq
    obtain ⟨i, hi, rfl, hX, hKX⟩ := hrel
    by_cases hlt : i < N
    · have hlt' : (i : Int) < (N : Int) := by omega
      obtain ⟨gk, ck', ev, hgk, ckey⟩ := key_at hKX (show i < ks.length by omega)
      rw [hkN] at ev
      simp at ev
      obtain ⟨rfl, rfl⟩ := ev
      have hil : i < l.length := by omega
      have hks2 : ks[i].2 = l[i].k := by
        have e1 : (ks.map (·.2))[i]? = (l.map (·.k))[i]? := by rw [hks]
        rw [List.getElem?_map, List.getElem?_map, List.getElem?_eq_getElem (by omega), List.getElem?_eq_getElem hil] at e1
        simpa using e1
      obtain ⟨gb, -, hO⟩ := hKX.own ks[i] (List.getElem_mem (by omega))
      rw [hks2] at hO
      obtain ⟨hO1, hO2⟩ := hO
      rw [hO1] at ckey
      have hOk : Own wr gb (.slice (some ⟨gb, 0, none⟩) l[i].k.length l[i].k.length) l[i].k := ⟨rfl, hO2⟩
      obtain ⟨hy, hyk, hyv⟩ := g1.cur.all l[i] (List.getElem_mem hil)
      have hSX := h1.below hX
      have hG := get_any hSX h2 (by omega) hOk.src hy.kb
      have hgs := getS_at hsl hil
      rw [g2, ← h3] at hgs
      rw [hgs] at hG
      obtain ⟨gm, cap, ev, hgm, p0, p1⟩ := rpair_at g1.cur.row (List.getElem?_eq_getElem hil)
      rw [hN] at ev
      simp at ev
      obtain ⟨rfl, rfl⟩ := ev
      have hblk := g1.blk
      have hkeep : Hid (∀ X, Below wr.heap.size wr X → X.cell? ⟨gk, i, none⟩ = some (.slice (some ⟨gb, 0, none⟩) l[i].k.length l[i].k.length) ∧ X.cell? ⟨m, 0, none⟩ = some (.slice (some ⟨gm, 0, none⟩) N cl) ∧ X.cell? ⟨gm, i * 2, none⟩ = some l[i].kv ∧ X.cell? ⟨gm, i * 2 + 1, none⟩ = some l[i].vv) := fun Y hY => by
        have hWY : Below W.heap.size W Y := bt hX hY
        obtain ⟨cm, -⟩ := cells_of_block ((hWY.block m hml).trans hblk)
        exact ⟨(hY.cell (p := ⟨gk, i, none⟩) hgk).trans ckey, cm 0, (hWY.cell (p := ⟨gm, i * 2, none⟩) hgm).trans p0, (hWY.cell (p := ⟨gm, i * 2 + 1, none⟩) hgm).trans p1⟩
      have hyb : Hid (∀ X, Below wr.heap.size wr X → IsBytes X l[i].kv l[i].k ∧ IsBytes X l[i].vv l[i].v ∧ IsBytes X (.slice (some ⟨gb, 0, none⟩) l[i].k.length l[i].k.length) l[i].k ∧ KeysAt X W.heap.size (.slice (some ⟨gk, 0, none⟩) N ck) ks) := fun Y hY => ⟨hy.k.below (bt hX hY), hy.v.below (bt hX hY), (hOk.isB hy.kl).below hY, hKX.below hY⟩
      have hvl := hy.vl
      obtain ⟨ya, yc, eyk⟩ := hy.k.slice
      obtain ⟨za, zc, ezv⟩ := hy.v.slice
      rw [eyk, ezv] at hkeep hyb
      clear hy hyk hyv eyk ezv hgs hO1 hO2 p0 p1 hks2 hSX
      generalize l[i].kv = ykv at *
      generalize l[i].vv = yvv at *
      generalize l[i].k = yk at *
      generalize l[i].v = yv at *
      go_wp2_with (go_at_call 28; refine hG.mono ?_; clear hG; rintro e w3 ⟨hb3, h0⟩; (have h0' : ∃ (v : Value) (g : Nat), e = .returned (.tuple #[v, .bool true]) ∧ Own w3 g v yv := (by rcases h0 with ⟨e, -⟩ | ⟨v, g, q, e1, e2, e3, -⟩; (cases e); (simp at e1; subst e1; exact ⟨v, g, e2, e3⟩))); clear h0; obtain ⟨pv, gp, rfl, hOv⟩ := h0'; obtain rfl := hOv.1)
      have hD3 : Below w3.heap.size w3 w3.drew := bd (Below.refl _ _)
      have hk3 : Hid (∀ X, Below w3.heap.size w3 X → X.cell? ⟨gk, i, none⟩ = some (.slice (some ⟨gb, 0, none⟩) yk.length yk.length) ∧ X.cell? ⟨m, 0, none⟩ = some (.slice (some ⟨gm, 0, none⟩) N cl) ∧ X.cell? ⟨gm, i * 2, none⟩ = some (.slice ya yk.length yc) ∧ X.cell? ⟨gm, i * 2 + 1, none⟩ = some (.slice za yv.length zc)) := fun X hX => hkeep.out X (bt hb3 hX)
      have hSk : Hid (∀ X, Below w3.heap.size w3 X → Calls Try.prog 25 #[.slice (some ⟨gb, 0, none⟩) yk.length yk.length, .slice ya yk.length yc] X fun e w' => e = .returned (.bool true) ∧ Below X.heap.size X w') := fun X hX => by
        obtain ⟨q1, -, q3, -⟩ := hyb.out X (bt hb3 hX)
        have := same_any X q3 q1
        rwa [decide_eq_true rfl] at this
      have hSv : Hid (∀ X, Below w3.heap.size w3 X → Calls Try.prog 25 #[.slice (some ⟨gp, 0, none⟩) yv.length yv.length, .slice za yv.length zc] X fun e w' => e = .returned (.bool true) ∧ Below X.heap.size X w') := fun X hX => by
        obtain ⟨-, q2, -, -⟩ := hyb.out X (bt hb3 hX)
        have := same_any X ((hOv.isB hvl).below hX) q2
        rwa [decide_eq_true rfl] at this
      have hfin : Hid (∀ X, Below w3.heap.size w3 X → Below W.heap.size W X ∧ KeysAt X W.heap.size (.slice (some ⟨gk, 0, none⟩) N ck) ks) := fun Y hY => ⟨bt hX (bt hb3 hY), (hyb.out Y (bt hb3 hY)).2.2.2⟩
      clear hkeep hyb
      go_region_held2 (fun X => X.cell? ⟨gk, i, none⟩ = some (.slice (some ⟨gb, 0, none⟩) yk.length yk.length) ∧ X.cell? ⟨m, 0, none⟩ = some (.slice (some ⟨gm, 0, none⟩) N cl) ∧ X.cell? ⟨gm, i * 2, none⟩ = some (.slice ya yk.length yc) ∧ X.cell? ⟨gm, i * 2 + 1, none⟩ = some (.slice za yv.length zc)) (exact hk3.out _ (by assumption)) (first
        | (go_at_call 25; with_reducible refine (hSk.out _ (by assumption)).mono ?_; rintro e w4 ⟨rfl, hb4⟩; have hB4 := bt (by assumption) hb4)
        | (go_at_call 25; with_reducible refine (hSv.out _ (by assumption)).mono ?_; rintro e w5 ⟨rfl, hb5⟩; have hB5 := bt (by assumption) hb5))
      all_goals go_wp2
      all_goals go_roundw
      case rel => exact ⟨i + 1, by omega, by go_num, hfin.out _ (by assumption)⟩
      case measure => (simp [intOf]; omega)
    · obtain rfl : i = N := by omega
      go_wp2
      go_ret
      exact ⟨rfl, hX⟩
end Go.Proofs.Ythajolagpnakkaa
