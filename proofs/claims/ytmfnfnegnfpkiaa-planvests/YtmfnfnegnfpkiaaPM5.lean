
/- Several texts, one behind the other: MA9, VE5, PL8, PL10, MA8, PL11. -/
import Derived.Test.YtmfnfnegnfpkiaaPM4
import Derived.Deep.CutRange
/- jointurelaw06.plans of kinds with periods: the walk. -/
set_option linter.unusedSimpArgs false
set_option linter.unusedVariables false
set_option maxRecDepth 20000
namespace Go.Proofs.Ytmfnfnegnfpkiaa
open Go.ChangeShapes Go.WideShapes Go.ChangeAt Go.RowKit
section
variable {w : World} {k s n : Int} {a1 a2 : Option Addr} {n1 c1 n2 c2 : Nat} {l : List Cn} {ps : List Pa}
set_option maxRecDepth 20000 in
set_option maxHeartbeats 16000000 in
theorem plans_5 (h : MdIn w ⟨k, s, n, a1, n1, c1, a2, n2, c2, l, ps⟩) (hk : k % 6 = 5) (hfm : fewM ⟨k, s, n, a1, n1, c1, a2, n2, c2, l, ps⟩ = true) (W : World) (hB : Below w.heap.size w W) :
    Calls Try.prog 16 #[.agg #[.int .u8 k, .int .u32 s, .int .u16 n, .slice a1 n1 c1, .slice a2 n2 c2]] W fun e w' => MadeOk W w' e := by
  have hpad := pads
  have hk0 := h.k
  have hs := h.s
  have hn := h.n
  have hnum : Hid _ := h.num
  have hpc : Hid (∀ X, Below w.heap.size w X → ∀ i (hi : i < ps.length), ∃ blk off, a2 = some ⟨blk, off, none⟩ ∧ blk < w.heap.size ∧ X.cell? ⟨blk, off + i * 2, none⟩ = some (.int .u16 ps[i].n) ∧ X.cell? ⟨blk, off + i * 2 + 1, none⟩ = some (.slice ps[i].a ps[i].m ps[i].cap)) := fun X hX i hi => pc_at h hX hi
  have hfm1 : n2 ≤ 20 ∧ ∀ q ∈ ps, q.m ≤ 20 := by
    simp only [fewM, Bool.and_eq_true, decide_eq_true_eq, List.all_eq_true] at hfm
    exact ⟨hfm.1.2, hfm.2⟩
  have hok : Hid (∀ i (hi : i < ps.length), (0 ≤ ps[i].n ∧ ps[i].n ≤ 65535) ∧ (∀ x ∈ ps[i].l, LimC x)) := fun i hi => ⟨(h.ok _ (List.getElem_mem hi)).n, fun x hx => ((h.ok _ (List.getElem_mem hi)).wf x hx).2⟩
  have hO : Hid (∀ X, Below w.heap.size w X → ∀ i (hi : i < ps.length), Calls Try.prog 46 #[.slice ps[i].a ps[i].m ps[i].cap] X fun e w' => ∃ a c, e = .returned (.slice a (mkL ps[i].l).length c) ∧ IsCoins w' (.slice a (mkL ps[i].l).length c) (mkL ps[i].l) ∧ NewV X w' (.slice a (mkL ps[i].l).length c) ∧ Below X.heap.size X w') := fun X hX i hi => of6_gives X (((h.ok _ (List.getElem_mem hi)).cl.below hX).coins (by have h1 := (h.ok _ (List.getElem_mem hi)).len; have h2 := hfm1.2 _ (List.getElem_mem hi); omega)) (h.ok _ (List.getElem_mem hi)).wf
  have hO0 : Hid (∀ X, Calls Try.prog 46 #[.slice none 0 0] X fun e w' => ∃ a c, e = .returned (.slice a (mkL []).length c) ∧ IsCoins w' (.slice a (mkL []).length c) (mkL []) ∧ NewV X w' (.slice a (mkL []).length c) ∧ Below X.heap.size X w') := fun X => of6_gives X (.inl ⟨rfl, _, _, rfl⟩) (by simp)
  have hmk0 : Hid (∀ v, PdM ⟨n + 1, v, mkL []⟩) := fun v => mk_pd (by simp only at hn; omega) (by simp)
  generalize mkL [] = L0 at hO0 hmk0
  simp only at hk0 hs hn hnum
  have hn20 := hfm1.1
  have hkm : k.tmod 6 = 5 := by rw [Int.tmod_eq_emod_of_nonneg hk0.1, hk]
  have hw1 : IntKind.u64.wrap s = s := by rw [IntKind.wrap_u64]; omega
  have hw2 : IntKind.u64.wrap n = n := by rw [IntKind.wrap_u64]; omega
  have hw3 : IntKind.u64.wrap (n + 1) = n + 1 := by rw [IntKind.wrap_u64]; omega
  clear h hfm hfm1
  go_enter Try.func16, Try.ntmps16
  go_upto_region 2 with fail
  go_cut [4, 5] from 12 to 18 (fun s4 s5 wx => s4 = .int .u64 s ∧ s5 = .int .u64 (n + 1) ∧ wx.heap[W.heap.size]? = some (.cells #[.int .u8 k, .int .u32 s, .int .u16 n, .slice a1 n1 c1, .slice a2 n2 c2] 33 (0, 0)) ∧ wx.heap[W.heap.size + 1]? = some (.cells #[.int .u8 0, .int .u64 0, .int .u64 0, .slice none 0 0, .slice none 0 0] 26 (0, 0)) ∧ wx.heap[W.heap.size + 1 + 1]? = some (.cells #[.int .u8 5, .int .u64 0, .int .u64 0, .slice none 0 0, .slice none 0 0] 26 (0, 0)) ∧ W.heap.size + 1 + 1 < wx.heap.size ∧ Below W.heap.size W wx)
  case first =>
    go_region
    all_goals (go_wp2_with fail; go_meet)
    all_goals exact ⟨rfl, rfl, by (repeat (first | (with_reducible exact al_at (by simp [pad_size])) | (with_reducible refine Eq.trans (dr_blk _ _) ?_) | (with_reducible refine Eq.trans (al_old (by first | omega | (simp [pad_size]; done) | (simp [pad_size]; omega))) ?_) | (with_reducible refine Eq.trans (pad_block (by first | omega | (simp [pad_size]; done) | (simp [pad_size]; omega)) (by first | omega | (simp [pad_size]; done) | (simp [pad_size]; omega))) ?_) | (with_reducible assumption))), by (repeat (first | (with_reducible exact al_at (by simp [pad_size])) | (with_reducible refine Eq.trans (dr_blk _ _) ?_) | (with_reducible refine Eq.trans (al_old (by first | omega | (simp [pad_size]; done) | (simp [pad_size]; omega))) ?_) | (with_reducible refine Eq.trans (pad_block (by first | omega | (simp [pad_size]; done) | (simp [pad_size]; omega)) (by first | omega | (simp [pad_size]; done) | (simp [pad_size]; omega))) ?_) | (with_reducible assumption))), by (repeat (first | (with_reducible exact al_at (by simp [pad_size])) | (with_reducible refine Eq.trans (dr_blk _ _) ?_) | (with_reducible refine Eq.trans (al_old (by first | omega | (simp [pad_size]; done) | (simp [pad_size]; omega))) ?_) | (with_reducible refine Eq.trans (pad_block (by first | omega | (simp [pad_size]; done) | (simp [pad_size]; omega)) (by first | omega | (simp [pad_size]; done) | (simp [pad_size]; omega))) ?_) | (with_reducible assumption))), by simp, by (repeat (first | (with_reducible exact Below.refl _ _) | (with_reducible assumption) | (with_reducible apply bd) | (with_reducible apply ba) | (with_reducible refine bp ?_ (by first | omega | (simp [pad_size]; done) | (simp [pad_size]; omega)) _ _) | (with_reducible refine bs ?_ (by first | omega | (simp [pad_size]; done) | (simp [pad_size]; omega)) _) | (with_reducible refine bt ?_ (by assumption))))⟩
  case rest =>
    obtain ⟨rfl, rfl, hm0, hr0, hp0, hz0, hb0⟩ := hcut
    obtain ⟨cp0, fp0⟩ := cells_of_block hp0
    go_wp2
    go_loopw [6] (fun iv X => ∃ (i : Nat) (qs : List Pd) (e : Int) (aa : Option Addr) (na ca : Nat) (ap : Option Addr) (cp : Nat), i ≤ 16 ∧ (i ≤ n2 ∨ i ≤ 1) ∧ iv = .int .i64 (i : Int) ∧ qs.length = i ∧ Hid (e = s + lenS qs) ∧ (0 ≤ e ∧ e ≤ 4296081407) ∧ Hid (∀ q ∈ qs, PdM q) ∧ Hid (PSt W X #[.int .u8 k, .int .u32 s, .int .u16 n, .slice a1 n1 c1, .slice a2 n2 c2] 5 s e aa na ca ap cp qs (lst (sumP qs) 8))) (fun iv _ => 17 - (intOf iv).toNat)
    case atStart =>
      refine ⟨0, [], s, none, 0, 0, none, 0, by omega, by omega, rfl, rfl, by unfold Hid; simp [lenS], by omega, by unfold Hid; simp, ?_⟩
      exact ⟨(set_blk (by omega)).trans ((set_blk (by omega)).trans hm0), (set_blk (by omega)).trans ((set_blk (by omega)).trans hr0), by rw [block_set _ (block_set _ hp0)]; rfl, QsAt.nil _ _ _, by rw [sumP_nil]; exact .inl ⟨rfl, none, 0, rfl⟩, by simp [Value.ownBlock], bs (bs hb0 (by show W.heap.size ≤ W.heap.size + 1 + 1; omega) _) (by show W.heap.size ≤ W.heap.size + 1 + 1; omega) _, by rw [set_sz, set_sz]; exact hz0⟩
    case round =>
      clear hm0 hr0 hp0 hz0 hb0 cp0 fp0
      obtain ⟨i, qs, e, aa, na, ca, ap, cp, hi16, hin, rfl, hql, hee, he, hq, hP⟩ := hrel
      have hqh : Hid (qs.length = i) := hql
      have hl16 : qs.length ≤ 16 := by omega
      have hl1 : 1 ≤ i → 1 ≤ qs.length := fun _ => by omega
      clear hql
      obtain ⟨cM, cR, cP⟩ := hP.out.cells
      obtain ⟨fP, fR⟩ := hP.out.froz
      have hgo : (i < 16 ∧ i < n2) ∨ (i = 0 ∧ n2 = 0) ∨ (1 ≤ i ∧ (n2 ≤ i ∨ i = 16)) := by omega
      by_cases hx : 1 ≤ i ∧ (n2 ≤ i ∨ i = 16)
      · obtain ⟨hx1, hx2⟩ := hx
        have hne : ((i : Int) == 0) = false := beq_eq_false_iff_ne.2 (by omega)
        have hne2 : ¬ (i : Int) = 0 := by omega
        have hmade := made_right (av := .slice aa na ca) (pv := .slice ap qs.length cp) (k := 5) (by omega) hq.out (hl1 hx1) hl16 hee.out hs
        have hlq : qs.length ≤ 1048576 := by omega
        have hXb := hP.out.b
        clear hpc hok hO hO0 hgo
        by_cases hni : n2 ≤ i
        · have hni' : ¬ (i : Int) < (n2 : Int) := by omega
          go_wp2
          refine bodyPost_ret (v := pnV ⟨5, s, e, .slice aa na ca, .slice ap qs.length cp, lst (sumP qs) 8, qs⟩) (by simp only [results, Try.results16]; go_simp; rfl) rfl ⟨_, rfl, hP.out.done hlq (by repeat (first | exact grown_ref _ _ | refine grown_se ?_ _ _ | refine grown_dr ?_)), hmade.1, hmade.2, hP.out.q.cap, by (repeat (first | (with_reducible exact Below.refl _ _) | (with_reducible assumption) | (with_reducible apply bd) | (with_reducible apply ba) | (with_reducible refine bp ?_ (by first | omega | (simp [pad_size]; done) | (simp [pad_size]; omega)) _ _) | (with_reducible refine bs ?_ (by first | omega | (simp [pad_size]; done) | (simp [pad_size]; omega)) _) | (with_reducible refine bt ?_ (by assumption))))⟩
        · have hni' : (i : Int) < (n2 : Int) := by omega
          have h16 : ¬ (i : Int) < 16 := by omega
          go_wp2
          refine bodyPost_ret (v := pnV ⟨5, s, e, .slice aa na ca, .slice ap qs.length cp, lst (sumP qs) 8, qs⟩) (by simp only [results, Try.results16]; go_simp; rfl) rfl ⟨_, rfl, hP.out.done hlq (by repeat (first | exact grown_ref _ _ | refine grown_se ?_ _ _ | refine grown_dr ?_)), hmade.1, hmade.2, hP.out.q.cap, by (repeat (first | (with_reducible exact Below.refl _ _) | (with_reducible assumption) | (with_reducible apply bd) | (with_reducible apply ba) | (with_reducible refine bp ?_ (by first | omega | (simp [pad_size]; done) | (simp [pad_size]; omega)) _ _) | (with_reducible refine bs ?_ (by first | omega | (simp [pad_size]; done) | (simp [pad_size]; omega)) _) | (with_reducible refine bt ?_ (by assumption))))⟩
      · have hAB : (i < 16 ∧ i < n2) ∨ (i = 0 ∧ n2 = 0) := by omega
        clear hgo hx
        rcases hAB with ⟨h16, hi2⟩ | ⟨rfl, rfl⟩
        · have h16' : (i : Int) < 16 := by omega
          have hi2' : (i : Int) < (n2 : Int) := by omega
          go_upto_region 16 with fail
          go_cut [7] from 58 to 60 (fun s7 wx => ∃ (Bx : Nat) (a : Option Addr) (c : Nat), s7 = .pointer (some ⟨Bx, 0, none⟩) ∧ wx.heap[Bx]? = some (.cells #[.int .u64 (n + 1), .slice a L0.length c] 73 (0, 0)) ∧ Hid (IsCoins wx (.slice a L0.length c) L0) ∧ Hid (∀ g, (Value.slice a L0.length c).ownBlock = some g → wr.heap.size ≤ g ∧ g < Bx) ∧ wr.heap.size ≤ Bx ∧ Bx < wx.heap.size ∧ Below wr.heap.size wr wx)
          case first =>
            go_wp2_with (go_at_call 46; refine (hO0.out _).mono ?_; rintro e w1 ⟨a, c, rfl, hI, hN, hb⟩; replace hI : Hid (IsCoins w1 (.slice a L0.length c) L0) := hI; replace hN : Hid (NewV wr w1 (.slice a L0.length c)) := hN)
            go_meet
            exact ⟨_, a, c, rfl, by (repeat (first | (with_reducible exact al_at (by simp [pad_size])) | (with_reducible refine Eq.trans (dr_blk _ _) ?_) | (with_reducible refine Eq.trans (al_old (by first | omega | (simp [pad_size]; done) | (simp [pad_size]; omega))) ?_) | (with_reducible refine Eq.trans (pad_block (by first | omega | (simp [pad_size]; done) | (simp [pad_size]; omega)) (by first | omega | (simp [pad_size]; done) | (simp [pad_size]; omega))) ?_) | (with_reducible assumption))), IsCoins.below hI.out (ba (Below.refl _ _) _), fun g hg => hN.out g hg, hb.size, by simp, ba hb _⟩
          case rest =>
            obtain ⟨Bx, av, cv, rfl, hBx, hIv, hNv, hBl, hBz, hb1⟩ := hcut
            have hP1 : Hid _ := PSt.below hP.out hb1
            obtain ⟨cM1, cR1, cP1⟩ := hP1.out.cells
            have hip : i < ps.length := by have := hnum.out; omega
            obtain ⟨pblk, poff, rfl, hpl, p0, p1⟩ := hpc.out wc (bt hB (bt hP.out.b hb1)) i hip
            obtain ⟨⟨hq0, hq1⟩, hql'⟩ := hok.out i hip
            have hOi : Hid (∀ X, Below wr.heap.size wr X → _) := fun X hX => hO.out X (bt hB (bt hP.out.b hX)) i hip
            have hw5 : IntKind.u64.wrap ps[i].n = ps[i].n := by rw [IntKind.wrap_u64]; omega
            have hw6 : IntKind.u64.wrap (ps[i].n + 1) = ps[i].n + 1 := by rw [IntKind.wrap_u64]; omega
            have hpm : Hid (∀ v, PdM ⟨ps[i].n + 1, v, mkL ps[i].l⟩) := fun v => mk_pd (by omega) hql'
            have hWz := hP.out.sz
            have hpw : pblk < wr.heap.size := Nat.lt_of_lt_of_le hpl (Nat.le_trans hB.size hP.out.b.size)
            have hkp : Hid (∀ X, Below wr.heap.size wr X → X.cell? ⟨W.heap.size, 4, none⟩ = some (.slice (some ⟨pblk, poff, none⟩) n2 c2) ∧ X.cell? ⟨pblk, poff + i * 2, none⟩ = some (.int .u16 ps[i].n) ∧ X.cell? ⟨pblk, poff + i * 2 + 1, none⟩ = some (.slice ps[i].a ps[i].m ps[i].cap)) := fun X hX =>
              ⟨((PSt.below hP.out hX).cells.1 4), ((hpc.out X (bt hB (bt hP.out.b hX)) i hip).elim fun b h => h.elim fun o h => by obtain ⟨e1, _, e2, _⟩ := h; simp at e1; obtain ⟨rfl, rfl⟩ := e1; exact e2), ((hpc.out X (bt hB (bt hP.out.b hX)) i hip).elim fun b h => h.elim fun o h => by obtain ⟨e1, _, _, e2⟩ := h; simp at e1; obtain ⟨rfl, rfl⟩ := e1; exact e2)⟩
            obtain ⟨cBx, fBx⟩ := cells_of_block hBx
            clear hpc hok hO hql'
            generalize mkL ps[i].l = ml at *
            generalize ps[i] = pc at *
            go_upto_region 18 with fail
            go_cut [7] from 66 to 81 (fun s7 wx => ∃ (m' : Int) (a' : Option Addr) (c' : Nat) (l' : List Cn), s7 = .pointer (some ⟨Bx, 0, none⟩) ∧ wx.heap[Bx]? = some (.cells #[.int .u64 m', .slice a' l'.length c'] 73 (0, 0)) ∧ Hid (IsCoins wx (.slice a' l'.length c') l') ∧ Hid (PdM ⟨m', .slice a' l'.length c', l'⟩) ∧ Hid (∀ g, (Value.slice a' l'.length c').ownBlock = some g → wr.heap.size ≤ g ∧ g < wx.heap.size ∧ g ≠ Bx) ∧ Bx < wx.heap.size ∧ Below wr.heap.size wr wx)
            case first =>
              go_region_held2 (fun X => X.cell? ⟨W.heap.size, 4, none⟩ = some (.slice (some ⟨pblk, poff, none⟩) n2 c2) ∧ X.cell? ⟨pblk, poff + i * 2, none⟩ = some (.int .u16 pc.n) ∧ X.cell? ⟨pblk, poff + i * 2 + 1, none⟩ = some (.slice pc.a pc.m pc.cap)) (exact hkp.out _ (by (repeat (first | (with_reducible exact Below.refl _ _) | (with_reducible assumption) | (with_reducible apply bd) | (with_reducible apply ba) | (with_reducible refine bp ?_ (by first | omega | (simp [pad_size]; done) | (simp [pad_size]; omega)) _ _) | (with_reducible refine bs ?_ (by first | omega | (simp [pad_size]; done) | (simp [pad_size]; omega)) _) | (with_reducible refine bt ?_ (by assumption)))))) (first | (go_at_call 46; refine (hOi.out _ (by (repeat (first | (with_reducible exact Below.refl _ _) | (with_reducible assumption) | (with_reducible apply bd) | (with_reducible apply ba) | (with_reducible refine bp ?_ (by first | omega | (simp [pad_size]; done) | (simp [pad_size]; omega)) _ _) | (with_reducible refine bs ?_ (by first | omega | (simp [pad_size]; done) | (simp [pad_size]; omega)) _) | (with_reducible refine bt ?_ (by assumption)))))).mono ?_; rintro e w1 ⟨a, c, rfl, hI, hN, hb⟩; obtain ⟨m1, g1, d1, hm1, rfl⟩ := pad_of hb; replace hI : Hid (IsCoins _ (.slice a ml.length c) ml) := hI; replace hN : Hid (NewV _ _ (.slice a ml.length c)) := hN; clear hb; simp [pad_size] at hm1; have hBm : Bx < m1 := by omega))
              all_goals (go_wp2_with fail; go_meet)
              all_goals
                have hNg : Hid (∀ g, (Value.slice a ml.length c).ownBlock = some g → wc.heap.size ≤ g ∧ g < m1) := fun g hg => by
                  have := hN.out g hg
                  simp [pad_size] at this
                  omega
                have hwm : wr.heap.size ≤ wc.heap.size := hb1.size
                exact ⟨pc.n + 1, a, c, ml, rfl, (pad_block (by rw [set_sz, set_sz]; exact hBz) hBm).trans (by rw [block_set _ (block_set _ hBx)]; rfl), IsCoins.keepC hI.out (fun g hg => pad_high (by simp [set_sz]) (by rw [set_sz, set_sz]; exact (hNg.out g hg).1)) (by simp [pad_size]), hpm.out _, fun g hg => by have := hNg.out g hg; simp only [pad_size]; omega, by simp only [pad_size]; exact hBm, by (repeat (first | (with_reducible exact Below.refl _ _) | (with_reducible assumption) | (with_reducible apply bd) | (with_reducible apply ba) | (with_reducible refine bp ?_ (by first | omega | (simp [pad_size]; done) | (simp [pad_size]; omega)) _ _) | (with_reducible refine bs ?_ (by first | omega | (simp [pad_size]; done) | (simp [pad_size]; omega)) _) | (with_reducible refine bt ?_ (by assumption))))⟩
            case rest =>
              obtain ⟨m', a', c', l', rfl, hBx2, hI2, hM2, hN2, hBs, hb2⟩ := hcut
              clear hBx hIv hNv hb1 hP1 cM1 cR1 cP1
              have hP2 : Hid (PSt W wc #[.int .u8 k, .int .u32 s, .int .u16 n, .slice a1 n1 c1, .slice (some ⟨pblk, poff, none⟩) n2 c2] 5 s e aa na ca ap cp qs (lst (sumP qs) 8)) := PSt.below hP.out hb2
              have hPz := hP.out.sz
              have hPr : Hid (∀ g, (Value.slice ap qs.length cp).ownBlock = some g → g < wr.heap.size) := fun g hg => (hP.out.q.row.lt g hg).2
              obtain ⟨cM2, cR2, cP2⟩ := hP2.out.cells
              obtain ⟨cB, fB⟩ := cells_of_block hBx2
              go_upto_region 19 with fail
              have hBr : (Value.slice ap qs.length cp).ownBlock ≠ some Bx := fun e => by have := hPr.out Bx e; omega
              have hOwn : Hid (∀ g, (Value.slice a' l'.length c').ownBlock = some g → g < wc.heap.size + 1 ∧ (Value.slice ap qs.length cp).ownBlock ≠ some g ∧ W.heap.size + 1 + 1 < g) := fun g hg => by
                have h1 := hN2.out g hg
                exact ⟨by omega, fun e => by have := hPr.out g e; omega, by omega⟩
              have hwz := hP2.out.sz
              go_cut [7] from 82 to 87 (fun s7 wx => ∃ (ap' : Option Addr) (cp' : Nat) (qs' : List Pd), s7 = .pointer (some ⟨Bx, 0, none⟩) ∧ Hid (qs' = qs ++ [⟨m', .slice a' l'.length c', l'⟩]) ∧ Hid (PSt W wx #[.int .u8 k, .int .u32 s, .int .u16 n, .slice a1 n1 c1, .slice (some ⟨pblk, poff, none⟩) n2 c2] 5 s e aa na ca ap' cp' qs' (lst (sumP qs) 8)) ∧ wx.heap[Bx]? = some (.cells #[.int .u64 m', .slice a' l'.length c'] 73 (0, 0)) ∧ Bx < wx.heap.size)
              case first =>
                go_wp2_with (at_builtin; go_loud (refine per_app (W := W) (lo := W.heap.size + 1 + 1 + 1) (bp := W.heap.size + 1 + 1) (hP2.out.q.below (ba (Below.refl _ _) _)) (by simp; omega) (by simp; omega) (bt hP2.out.b (ba (Below.refl _ _) _)) (by omega) (by omega) ⟨m', .slice a' l'.length c', l'⟩ rfl (IsCL.below (IsCoins.cl hI2.out) (ba (Below.refl _ _) _)) (fun g hg => ⟨by have := (hOwn.out g hg).1; simp; omega, (hOwn.out g hg).2⟩) rfl _ _ rfl rfl rfl (by (repeat (first | (with_reducible exact al_at (by simp [pad_size])) | (with_reducible refine Eq.trans (dr_blk _ _) ?_) | (with_reducible refine Eq.trans (al_old (by first | omega | (simp [pad_size]; done) | (simp [pad_size]; omega))) ?_) | (with_reducible refine Eq.trans (pad_block (by first | omega | (simp [pad_size]; done) | (simp [pad_size]; omega)) (by first | omega | (simp [pad_size]; done) | (simp [pad_size]; omega))) ?_) | (with_reducible assumption)))) ?_; intro qs4 v4 w4 hO4 hQ4 hb4 hk4 hs4 hn4; obtain ⟨a4, c4, rfl⟩ := row_slice hQ4.row; have hp4 := (hk4 _ (by simp; omega) (hP2.out.notRow (Nat.le_refl _))).trans ((al_old hP2.out.sz).trans hP2.out.p); obtain ⟨cP4, fP4⟩ := cells_of_block hp4; replace hn4 : Hid _ := hn4; replace hk4 : Hid _ := hk4; replace hQ4 : Hid _ := hQ4; clear hp4))
                go_meet
                exact ⟨a4, c4, qs4, rfl, hO4, PSt.grow (PSt.below hP2.out (ba (Below.refl _ _) _)) hQ4.out hk4.out hs4 hb4 hn4.out, (set_blk (by omega)).trans ((hk4.out Bx (by simp; omega) hBr).trans ((al_old hBs).trans hBx2)), by rw [set_sz]; simp at hs4; omega⟩
              case rest =>
                obtain ⟨ap', cp', qs', rfl, hq', hP3, hBx3, hz3⟩ := hcut
                clear cM2 cR2 cP2 cB fB hP2 hOwn hBr hI2 hN2 hBx2
                have hqm : Hid (∀ q ∈ qs', PdM q) := fun q hq2 => by
                  rw [hq'.out] at hq2
                  rcases List.mem_append.1 hq2 with h | h
                  · exact hq.out q h
                  · rw [List.mem_singleton] at h; subst h; exact hM2.out
                have hql2 : Hid (qs'.length = i + 1) := by unfold Hid; rw [hq'.out]; simp; exact hqh.out
                have hl17 : qs'.length ≤ 17 := by have := hql2.out; omega
                have hee2 : Hid (e + m' = s + lenS qs') := by unfold Hid; rw [hq'.out, lenS_snoc, ← Int.add_assoc, ← hee.out]
                have hm1 : 1 ≤ m' ∧ m' ≤ 65536 := by
                  have h1 := hM2.out.r
                  have h2 := hM2.out.n
                  simp only [pdR, Bool.and_eq_true, decide_eq_true_eq] at h1
                  exact ⟨h1.1, h2⟩
                have hlb : lenS qs' ≤ 17 * 65536 := by have := (made_len hqm.out).2; omega
                have hw7 : IntKind.u64.wrap (e + m') = e + m' := by rw [IntKind.wrap_u64]; omega
                have hP4 : Hid (PSt W (wc.setCell ⟨W.heap.size + 1 + 1, 2, none⟩ (.int .u64 (e + m'))) #[.int .u8 k, .int .u32 s, .int .u16 n, .slice a1 n1 c1, .slice (some ⟨pblk, poff, none⟩) n2 c2] 5 s (e + m') aa na ca ap' cp' qs' (lst (sumP qs) 8)) := PSt.setE hP3.out (e + m')
                have hfit := made_fits hqm.out (by omega)
                have hz := sumP_purse (fun q h => (hq.out q h).wf) (made_fits hq.out (by omega))
                have hC := addRC_gives (qs := qs) hz hM2.out (fun d hd => by have := hfit d hd; rw [hq'.out, tot_snoc] at this; exact this) _ hP4.out.a ((hP4.out.q.all _ (by rw [hq'.out]; simp)).1.lst hM2.out.right)
                rw [← hq'.out] at hC
                replace hC : Hid (True → _) := fun _ => hC
                obtain ⟨cM3, cR3, cP3⟩ := hP3.out.cells
                obtain ⟨fP3, fR3⟩ := hP3.out.froz
                obtain ⟨cB3, fB3⟩ := cells_of_block hBx3
                have hBp : ¬ Bx = W.heap.size + 1 + 1 := by omega
                have hBp' : ¬ W.heap.size + 1 + 1 = Bx := by omega
                clear hee hfit hz
                go_wp2_with (go_at_call 22; refine (hC.out trivial).mono ?_; rintro e6 w6 ⟨a6, n6, c6, rfl, hI6, hN6, hb6⟩; have hP6 : Hid _ := PSt.below hP4.out hb6; obtain ⟨cM6, cR6, cP6⟩ := hP6.out.cells; obtain ⟨fP6, fR6⟩ := hP6.out.froz; replace hI6 : Hid (IsCoins w6 (.slice a6 n6 c6) (lst (sumP qs') 8)) := hI6; replace hN6 : Hid (NewV _ w6 (.slice a6 n6 c6)) := hN6)
                all_goals go_roundw
                case rel =>
                  refine ⟨i + 1, qs', e + m', a6, n6, c6, ap', cp', by omega, by omega, by go_num, hql2.out, hee2, ?_, hqm, PSt.setA hP6.out hI6.out (fun g hg => ?_)⟩
                  · have := hee2.out; omega
                  · have h1 := hN6.out g hg
                    rw [set_sz] at h1
                    have h2 := hP3.out.sz
                    exact ⟨h1.2, fun e8 => by have := (hP3.out.q.row.lt g e8).2; omega, by omega⟩
                case measure => (simp [intOf] <;> omega)
        · skip
          go_upto_region 16 with fail
          go_cut [7] from 58 to 60 (fun s7 wx => ∃ (Bx : Nat) (a : Option Addr) (c : Nat), s7 = .pointer (some ⟨Bx, 0, none⟩) ∧ wx.heap[Bx]? = some (.cells #[.int .u64 (n + 1), .slice a L0.length c] 73 (0, 0)) ∧ Hid (IsCoins wx (.slice a L0.length c) L0) ∧ Hid (∀ g, (Value.slice a L0.length c).ownBlock = some g → wr.heap.size ≤ g ∧ g < Bx) ∧ wr.heap.size ≤ Bx ∧ Bx < wx.heap.size ∧ Below wr.heap.size wr wx)
          case first =>
            go_wp2_with (go_at_call 46; refine (hO0.out _).mono ?_; rintro e w1 ⟨a, c, rfl, hI, hN, hb⟩; replace hI : Hid (IsCoins w1 (.slice a L0.length c) L0) := hI; replace hN : Hid (NewV wr w1 (.slice a L0.length c)) := hN)
            go_meet
            exact ⟨_, a, c, rfl, by (repeat (first | (with_reducible exact al_at (by simp [pad_size])) | (with_reducible refine Eq.trans (dr_blk _ _) ?_) | (with_reducible refine Eq.trans (al_old (by first | omega | (simp [pad_size]; done) | (simp [pad_size]; omega))) ?_) | (with_reducible refine Eq.trans (pad_block (by first | omega | (simp [pad_size]; done) | (simp [pad_size]; omega)) (by first | omega | (simp [pad_size]; done) | (simp [pad_size]; omega))) ?_) | (with_reducible assumption))), IsCoins.below hI.out (ba (Below.refl _ _) _), fun g hg => hN.out g hg, hb.size, by simp, ba hb _⟩
          case rest =>
            obtain ⟨Bx, av, cv, rfl, hBx, hIv, hNv, hBl, hBz, hb1⟩ := hcut
            have hP1 : Hid _ := PSt.below hP.out hb1
            obtain ⟨cM1, cR1, cP1⟩ := hP1.out.cells
            go_upto_region 19 with fail
            have hXX : ∃ (m' : Int) (a' : Option Addr) (c' : Nat) (l' : List Cn), wc.heap[Bx]? = some (.cells #[.int .u64 m', .slice a' l'.length c'] 73 (0, 0)) ∧ Hid (IsCoins wc (.slice a' l'.length c') l') ∧ Hid (PdM ⟨m', .slice a' l'.length c', l'⟩) ∧ Hid (∀ g, (Value.slice a' l'.length c').ownBlock = some g → wr.heap.size ≤ g ∧ g < wc.heap.size ∧ g ≠ Bx) ∧ Bx < wc.heap.size ∧ Below wr.heap.size wr wc := ⟨n + 1, av, cv, L0, hBx, hIv, hmk0.out _, fun g hg => by have := hNv.out g hg; omega, hBz, hb1⟩
            clear hBx hIv hNv hb1 hP1 cM1 cR1 cP1
            obtain ⟨m', a', c', l', hBx2, hI2, hM2, hN2, hBs, hb2⟩ := hXX
            have hP2 : Hid (PSt W wc #[.int .u8 k, .int .u32 s, .int .u16 n, .slice a1 n1 c1, .slice a2 0 c2] 5 s e aa na ca ap cp qs (lst (sumP qs) 8)) := PSt.below hP.out hb2
            have hPz := hP.out.sz
            have hPr : Hid (∀ g, (Value.slice ap qs.length cp).ownBlock = some g → g < wr.heap.size) := fun g hg => (hP.out.q.row.lt g hg).2
            obtain ⟨cM2, cR2, cP2⟩ := hP2.out.cells
            obtain ⟨cB, fB⟩ := cells_of_block hBx2
            go_upto_region 19 with fail
            have hBr : (Value.slice ap qs.length cp).ownBlock ≠ some Bx := fun e => by have := hPr.out Bx e; omega
            have hOwn : Hid (∀ g, (Value.slice a' l'.length c').ownBlock = some g → g < wc.heap.size + 1 ∧ (Value.slice ap qs.length cp).ownBlock ≠ some g ∧ W.heap.size + 1 + 1 < g) := fun g hg => by
              have h1 := hN2.out g hg
              exact ⟨by omega, fun e => by have := hPr.out g e; omega, by omega⟩
            have hwz := hP2.out.sz
            go_cut [7] from 82 to 87 (fun s7 wx => ∃ (ap' : Option Addr) (cp' : Nat) (qs' : List Pd), s7 = .pointer (some ⟨Bx, 0, none⟩) ∧ Hid (qs' = qs ++ [⟨m', .slice a' l'.length c', l'⟩]) ∧ Hid (PSt W wx #[.int .u8 k, .int .u32 s, .int .u16 n, .slice a1 n1 c1, .slice a2 0 c2] 5 s e aa na ca ap' cp' qs' (lst (sumP qs) 8)) ∧ wx.heap[Bx]? = some (.cells #[.int .u64 m', .slice a' l'.length c'] 73 (0, 0)) ∧ Bx < wx.heap.size)
            case first =>
              go_wp2_with (at_builtin; go_loud (refine per_app (W := W) (lo := W.heap.size + 1 + 1 + 1) (bp := W.heap.size + 1 + 1) (hP2.out.q.below (ba (Below.refl _ _) _)) (by simp; omega) (by simp; omega) (bt hP2.out.b (ba (Below.refl _ _) _)) (by omega) (by omega) ⟨m', .slice a' l'.length c', l'⟩ rfl (IsCL.below (IsCoins.cl hI2.out) (ba (Below.refl _ _) _)) (fun g hg => ⟨by have := (hOwn.out g hg).1; simp; omega, (hOwn.out g hg).2⟩) rfl _ _ rfl rfl rfl (by (repeat (first | (with_reducible exact al_at (by simp [pad_size])) | (with_reducible refine Eq.trans (dr_blk _ _) ?_) | (with_reducible refine Eq.trans (al_old (by first | omega | (simp [pad_size]; done) | (simp [pad_size]; omega))) ?_) | (with_reducible refine Eq.trans (pad_block (by first | omega | (simp [pad_size]; done) | (simp [pad_size]; omega)) (by first | omega | (simp [pad_size]; done) | (simp [pad_size]; omega))) ?_) | (with_reducible assumption)))) ?_; intro qs4 v4 w4 hO4 hQ4 hb4 hk4 hs4 hn4; obtain ⟨a4, c4, rfl⟩ := row_slice hQ4.row; have hp4 := (hk4 _ (by simp; omega) (hP2.out.notRow (Nat.le_refl _))).trans ((al_old hP2.out.sz).trans hP2.out.p); obtain ⟨cP4, fP4⟩ := cells_of_block hp4; replace hn4 : Hid _ := hn4; replace hk4 : Hid _ := hk4; replace hQ4 : Hid _ := hQ4; clear hp4))
              go_meet
              exact ⟨a4, c4, qs4, rfl, hO4, PSt.grow (PSt.below hP2.out (ba (Below.refl _ _) _)) hQ4.out hk4.out hs4 hb4 hn4.out, (set_blk (by omega)).trans ((hk4.out Bx (by simp; omega) hBr).trans ((al_old hBs).trans hBx2)), by rw [set_sz]; simp at hs4; omega⟩
            case rest =>
              obtain ⟨ap', cp', qs', rfl, hq', hP3, hBx3, hz3⟩ := hcut
              clear cM2 cR2 cP2 cB fB hP2 hOwn hBr hI2 hN2 hBx2
              have hqm : Hid (∀ q ∈ qs', PdM q) := fun q hq2 => by
                rw [hq'.out] at hq2
                rcases List.mem_append.1 hq2 with h | h
                · exact hq.out q h
                · rw [List.mem_singleton] at h; subst h; exact hM2.out
              have hql2 : Hid (qs'.length = 0 + 1) := by unfold Hid; rw [hq'.out]; simp; exact List.eq_nil_of_length_eq_zero hqh.out
              have hl17 : qs'.length ≤ 17 := by have := hql2.out; omega
              have hee2 : Hid (e + m' = s + lenS qs') := by unfold Hid; rw [hq'.out, lenS_snoc, ← Int.add_assoc, ← hee.out]
              have hm1 : 1 ≤ m' ∧ m' ≤ 65536 := by
                have h1 := hM2.out.r
                have h2 := hM2.out.n
                simp only [pdR, Bool.and_eq_true, decide_eq_true_eq] at h1
                exact ⟨h1.1, h2⟩
              have hlb : lenS qs' ≤ 17 * 65536 := by have := (made_len hqm.out).2; omega
              have hw7 : IntKind.u64.wrap (e + m') = e + m' := by rw [IntKind.wrap_u64]; omega
              have hP4 : Hid (PSt W (wc.setCell ⟨W.heap.size + 1 + 1, 2, none⟩ (.int .u64 (e + m'))) #[.int .u8 k, .int .u32 s, .int .u16 n, .slice a1 n1 c1, .slice a2 0 c2] 5 s (e + m') aa na ca ap' cp' qs' (lst (sumP qs) 8)) := PSt.setE hP3.out (e + m')
              have hfit := made_fits hqm.out (by omega)
              have hz := sumP_purse (fun q h => (hq.out q h).wf) (made_fits hq.out (by omega))
              have hC := addRC_gives (qs := qs) hz hM2.out (fun d hd => by have := hfit d hd; rw [hq'.out, tot_snoc] at this; exact this) _ hP4.out.a ((hP4.out.q.all _ (by rw [hq'.out]; simp)).1.lst hM2.out.right)
              rw [← hq'.out] at hC
              replace hC : Hid (True → _) := fun _ => hC
              obtain ⟨cM3, cR3, cP3⟩ := hP3.out.cells
              obtain ⟨fP3, fR3⟩ := hP3.out.froz
              obtain ⟨cB3, fB3⟩ := cells_of_block hBx3
              have hBp : ¬ Bx = W.heap.size + 1 + 1 := by omega
              have hBp' : ¬ W.heap.size + 1 + 1 = Bx := by omega
              clear hee hfit hz
              go_wp2_with (go_at_call 22; refine (hC.out trivial).mono ?_; rintro e6 w6 ⟨a6, n6, c6, rfl, hI6, hN6, hb6⟩; have hP6 : Hid _ := PSt.below hP4.out hb6; obtain ⟨cM6, cR6, cP6⟩ := hP6.out.cells; obtain ⟨fP6, fR6⟩ := hP6.out.froz; replace hI6 : Hid (IsCoins w6 (.slice a6 n6 c6) (lst (sumP qs') 8)) := hI6; replace hN6 : Hid (NewV _ w6 (.slice a6 n6 c6)) := hN6)
              all_goals go_roundw
              case rel =>
                refine ⟨0 + 1, qs', e + m', a6, n6, c6, ap', cp', by omega, by omega, by go_num, hql2.out, hee2, ?_, hqm, PSt.setA hP6.out hI6.out (fun g hg => ?_)⟩
                · have := hee2.out; omega
                · have h1 := hN6.out g hg
                  rw [set_sz] at h1
                  have h2 := hP3.out.sz
                  exact ⟨h1.2, fun e8 => by have := (hP3.out.q.row.lt g e8).2; omega, by omega⟩
              case measure => (simp [intOf] <;> omega)
end
end Go.Proofs.Ytmfnfnegnfpkiaa

/- plan.Locked. -/
namespace Go.Proofs.Ytmfnfnegnfpkiaa
open Go.RowKit
theorem vested_hid {x : Pn} {t : Int} (w : World) (h : PnAt w x) (ho : PnOk x) (hr : PnR x) (ht : 0 ≤ t ∧ t < 18446744073709551616) (hc : ∃ a n c, x.pv = .slice a n c ∧ n ≤ c) :
    Hid (∀ X, Below w.heap.size w X → Calls Try.prog 18 #[pnV x, .int .u64 t] X fun e w' => ∃ a n c, e = .returned (.slice a n c) ∧ IsCoins w' (.slice a n c) (lst (vestP x t) 8) ∧ Below X.heap.size X w') := fun X hX => vested_any X (h.below hX) ho hr ht hc
theorem restC_gives {va vb : Value} {z y : Nat → Cn} (hz : Purse z) (hy : Purse y) (w : World) (hA : IsCoins w va (lst z 8)) (hB : IsCoins w vb (lst y 8)) :
    Calls Try.prog 56 #[va, vb] w fun e w' => ∃ a n c, e = .returned (.slice a n c) ∧ IsCoins w' (.slice a n c) (lst (opP restI z y) 8) ∧ Below w.heap.size w w' := by
  refine (restC_any hz hy w hA hB).mono ?_
  rintro e w' ⟨u, rfl, h1, h2⟩
  obtain ⟨a, c, rfl⟩ := h1.sl
  exact ⟨a, _, c, rfl, h1, h2⟩
theorem restK {va vb : Value} {z y : Nat → Cn} {w : World} {Q : Ending → World → Prop} (hz : Purse z) (hy : Purse y) (hA : IsCoins w va (lst z 8)) (hB : IsCoins w vb (lst y 8))
    (hQ : ∀ e w', (∃ a n c, e = .returned (.slice a n c) ∧ IsCoins w' (.slice a n c) (lst (opP restI z y) 8) ∧ Below w.heap.size w w') → Q e w') : Calls Try.prog 56 #[va, vb] w Q :=
  (restC_gives hz hy w hA hB).mono hQ
set_option maxRecDepth 20000 in
set_option maxHeartbeats 8000000 in
theorem locked_any {x : Pn} {t : Int} (w : World) (h : PnAt w x) (ho : PnOk x) (hr : PnR x) (ht : 0 ≤ t ∧ t < 18446744073709551616) (hc : ∃ a n c, x.pv = .slice a n c ∧ n ≤ c) :
    GivesI 20 #[pnV x, .int .u64 t] w (lst (lockP x t) 8) := by
  have hpad := pads
  unfold GivesI
  have hV := vested_hid w h ho hr ht hc
  have hA : Hid (∀ X, Below w.heap.size w X → IsCoins X x.av (lst (amP x.al) 8)) := fun X hX => al_coins (h.below hX) hr
  have hz : Hid (Purse (amP x.al)) := amP_purse ho.w.al
  have hy : Hid (Purse (vestP x t)) := vest_purse ho hr t
  have hlk : Hid (opP restI (amP x.al) (vestP x t) = lockP x t) := rfl
  generalize lockP x t = LK at *
  generalize vestP x t = VP at *
  obtain ⟨k, s, u, av, pv, al, pl⟩ := x
  obtain ⟨h1, h2⟩ := h
  simp only at h1 h2 hV hA hz hy hlk
  obtain ⟨a1, c1, rfl⟩ := h1.slice
  obtain ⟨a2, c2, rfl⟩ := h2.slice
  clear ho hr hc h1 h2
  show Calls Try.prog 20 #[.agg #[.int .u8 k, .int .u64 s, .int .u64 u, .slice a1 al.length c1, .slice a2 pl.length c2], .int .u64 t] w _
  have hV : Hid (∀ X, Below w.heap.size w X → Calls Try.prog 18 #[.agg #[.int .u8 k, .int .u64 s, .int .u64 u, .slice a1 al.length c1, .slice a2 pl.length c2], .int .u64 t] X fun e w' => ∃ a n c, e = .returned (.slice a n c) ∧ IsCoins w' (.slice a n c) (lst VP 8) ∧ Below X.heap.size X w') := hV
  have hb : Below w.heap.size w (w.alloc (.cells #[.int .u8 k, .int .u64 s, .int .u64 u, .slice a1 al.length c1, .slice a2 pl.length c2] 26)) := ba (Below.refl _ _) _
  have hkeep : Hid (∀ X, Below (w.alloc (.cells #[.int .u8 k, .int .u64 s, .int .u64 u, .slice a1 al.length c1, .slice a2 pl.length c2] 26)).heap.size (w.alloc (.cells #[.int .u8 k, .int .u64 s, .int .u64 u, .slice a1 al.length c1, .slice a2 pl.length c2] 26)) X → X.cell? ⟨w.heap.size, 0, none⟩ = some (.int .u8 k) ∧ X.cell? ⟨w.heap.size, 1, none⟩ = some (.int .u64 s) ∧ X.cell? ⟨w.heap.size, 2, none⟩ = some (.int .u64 u) ∧ X.cell? ⟨w.heap.size, 3, none⟩ = some (.slice a1 al.length c1) ∧ X.cell? ⟨w.heap.size, 4, none⟩ = some (.slice a2 pl.length c2)) := fun X hX => by
    have q1 := (hX.block w.heap.size (by simp)).trans (al_at rfl)
    exact ⟨(cells_of_block q1).1 0, (cells_of_block q1).1 1, (cells_of_block q1).1 2, (cells_of_block q1).1 3, (cells_of_block q1).1 4⟩
  go_enter Try.func20, Try.ntmps20
  go_upto_region 1 with fail
  generalize w.alloc (.cells #[.int .u8 k, .int .u64 s, .int .u64 u, .slice a1 al.length c1, .slice a2 pl.length c2] 26) = U at *
  have hbb : Hid (∀ X, Below U.heap.size U X → Below w.heap.size w X) := fun X hX => bt hb hX
  go_region_held2 (fun X => X.cell? ⟨w.heap.size, 0, none⟩ = some (.int .u8 k) ∧ X.cell? ⟨w.heap.size, 1, none⟩ = some (.int .u64 s) ∧ X.cell? ⟨w.heap.size, 2, none⟩ = some (.int .u64 u) ∧ X.cell? ⟨w.heap.size, 3, none⟩ = some (.slice a1 al.length c1) ∧ X.cell? ⟨w.heap.size, 4, none⟩ = some (.slice a2 pl.length c2)) (exact hkeep.out _ (by (repeat (first | (with_reducible exact Below.refl _ _) | (with_reducible assumption) | (with_reducible apply bd) | (with_reducible apply ba) | (with_reducible refine bp ?_ (by first | omega | (simp [pad_size]; done) | (simp [pad_size]; omega)) _ _) | (with_reducible refine bs ?_ (by first | omega | (simp [pad_size]; done) | (simp [pad_size]; omega)) _) | (with_reducible refine bt ?_ (by assumption)))))) (first
    | (go_at_call 18; refine (hV.out _ (hbb.out _ (by (repeat (first | (with_reducible exact Below.refl _ _) | (with_reducible assumption) | (with_reducible apply bd) | (with_reducible apply ba) | (with_reducible refine bp ?_ (by first | omega | (simp [pad_size]; done) | (simp [pad_size]; omega)) _ _) | (with_reducible refine bs ?_ (by first | omega | (simp [pad_size]; done) | (simp [pad_size]; omega)) _) | (with_reducible refine bt ?_ (by assumption))))))).mono ?_; rintro e w1 ⟨a, n, c, rfl, hI, hb⟩; obtain ⟨m1, g1, d1, hm1, rfl⟩ := pad_of hb; (try rw [hpad.2.2.2.2.2] at hI); have hI : Hid (IsCoins _ (.slice a n c) (lst VP 8)) := hI; clear hb; simp [pad_size] at hm1)
    | (go_at_call 56; refine restK hz.out hy.out ?_ ?_ ?_; exact hA.out _ (hbb.out _ (by (repeat (first | (with_reducible exact Below.refl _ _) | (with_reducible assumption) | (with_reducible apply bd) | (with_reducible apply ba) | (with_reducible refine bp ?_ (by first | omega | (simp [pad_size]; done) | (simp [pad_size]; omega)) _ _) | (with_reducible refine bs ?_ (by first | omega | (simp [pad_size]; done) | (simp [pad_size]; omega)) _) | (with_reducible refine bt ?_ (by assumption)))))); exact IsCoins.below hI.out (by (repeat (first | (with_reducible exact Below.refl _ _) | (with_reducible assumption) | (with_reducible apply bd) | (with_reducible apply ba) | (with_reducible refine bp ?_ (by first | omega | (simp [pad_size]; done) | (simp [pad_size]; omega)) _ _) | (with_reducible refine bs ?_ (by first | omega | (simp [pad_size]; done) | (simp [pad_size]; omega)) _) | (with_reducible refine bt ?_ (by assumption))))); rintro e w1 ⟨a', n', c', rfl, hJ, hb⟩; obtain ⟨m2, g2, d2, hm2, rfl⟩ := pad_of hb; rw [hlk.out] at hJ; (try rw [hpad.2.2.2.2.2] at hJ); have hJ : Hid (IsCoins _ (.slice a' n' c') (lst LK 8)) := hJ; clear hb; simp [pad_size] at hm2))
  all_goals go_wp2_with fail
  all_goals go_ret
  all_goals exact ⟨_, _, _, rfl, IsCoins.below hJ.out (by (repeat (first | (with_reducible exact Below.refl _ _) | (with_reducible assumption) | (with_reducible apply bd) | (with_reducible apply ba) | (with_reducible refine bp ?_ (by first | omega | (simp [pad_size]; done) | (simp [pad_size]; omega)) _ _) | (with_reducible refine bs ?_ (by first | omega | (simp [pad_size]; done) | (simp [pad_size]; omega)) _) | (with_reducible refine bt ?_ (by assumption))))), hbb.out _ (by (repeat (first | (with_reducible exact Below.refl _ _) | (with_reducible assumption) | (with_reducible apply bd) | (with_reducible apply ba) | (with_reducible refine bp ?_ (by first | omega | (simp [pad_size]; done) | (simp [pad_size]; omega)) _ _) | (with_reducible refine bs ?_ (by first | omega | (simp [pad_size]; done) | (simp [pad_size]; omega)) _) | (with_reducible refine bt ?_ (by assumption)))))⟩
end Go.Proofs.Ytmfnfnegnfpkiaa

/- plan.stepsRight. -/
namespace Go.Proofs.Ytmfnfnegnfpkiaa
open Go.RowKit

theorem all8_le {f g : Nat → Int} {m : Int} (h : ∃ d, d < 8 ∧ m ≤ f d) (hg : ∀ d, d < 8 → g d < m) : all8 f g = false := by
  rw [Bool.eq_false_iff]
  intro e
  obtain ⟨d, hd, h1⟩ := h
  have := all8_true.1 e d hd
  have := hg d hd
  omega
theorem bool_ext {a b : Bool} (h : a = true ↔ b = true) : a = b := by
  cases a <;> cases b <;> simp_all
set_option maxRecDepth 20000 in
set_option maxHeartbeats 8000000 in
theorem steps_any {x : Pn} (w : World) (h : PnAt w x) (ho : PnOk x) (hal : rightFrom 0 x.al = true) :
    Calls Try.prog 45 #[pnV x] w fun e w' => e = .returned (.bool (stepsB x)) ∧ Below w.heap.size w w' := by
  have hsb : Hid (stepsB x = (decide (1 ≤ x.pl.length) && decide (x.pl.length ≤ 16) && x.pl.all pdR && (decide ((ovN x.pl x.s x.e).1 = x.pl.length) && decide ((ovN x.pl x.s x.e).2 = x.e)) && all8 (tot x.pl) (fun d => vl (amP x.al d)))) := by
    unfold Hid stepsB; rw [ovN_full ho.p]
  have hO : Hid (∀ X, Below w.heap.size w X → Calls Try.prog 49 #[pnV x, .int .u64 x.e] X fun e w' => e = .returned (.tuple #[.int .i64 ((ovN x.pl x.s x.e).1 : Int), .int .u64 (ovN x.pl x.s x.e).2]) ∧ Below X.heap.size X w') := fun X hX => over_any X (h.below hX) ho ho.w.e
  have hT : Hid (∀ X, Below w.heap.size w X → (∀ q ∈ x.pl, rightFrom 0 q.l = true) → Calls Try.prog 50 #[x.pv] X _) := fun X hX hr => together_any X (h.2.below hX) ho.p hr
  have hA : Hid (∀ X, Below w.heap.size w X → IsCoins X x.av (lst (amP x.al) 8)) := fun X hX => (h.1.below hX).lst hal
  have hyA := amP_purse ho.w.al
  have hvA : Hid (∀ d, d < 8 → vl (amP x.al d) < 115792089237316195423570985008687907853269984665640564039457584007913129639936) := fun d hd => (vl_lo hyA hd).2
  have hwf := ho.p
  obtain ⟨k, s, u, av, pv, al, pl⟩ := x
  obtain ⟨h1, h2⟩ := h
  simp only at h1 h2 hsb hO hT hA hyA hvA hwf ⊢
  obtain ⟨a1, c1, rfl⟩ := h1.slice
  obtain ⟨a2, c2, rfl⟩ := h2.slice
  generalize hK : stepsB ⟨k, s, u, .slice a1 al.length c1, .slice a2 pl.length c2, al, pl⟩ = K at *
  clear hK
  show Calls Try.prog 45 #[.agg #[.int .u8 k, .int .u64 s, .int .u64 u, .slice a1 al.length c1, .slice a2 pl.length c2]] w _
  have hO' : Hid (∀ X, Below w.heap.size w X → Calls Try.prog 49 #[.agg #[.int .u8 k, .int .u64 s, .int .u64 u, .slice a1 al.length c1, .slice a2 pl.length c2], .int .u64 u] X fun e w' => e = .returned (.tuple #[.int .i64 ((ovN pl s u).1 : Int), .int .u64 (ovN pl s u).2]) ∧ Below X.heap.size X w') := hO
  clear hO
  have hb0 : Below w.heap.size w (w.alloc (.cells #[.int .u8 k, .int .u64 s, .int .u64 u, .slice a1 al.length c1, .slice a2 pl.length c2] 26)) := ba (Below.refl _ _) _
  have hP0 : (w.alloc (.cells #[.int .u8 k, .int .u64 s, .int .u64 u, .slice a1 al.length c1, .slice a2 pl.length c2] 26)).heap.size = w.heap.size + 1 := by simp
  have hkeep : Hid (∀ X, Below (w.alloc (.cells #[.int .u8 k, .int .u64 s, .int .u64 u, .slice a1 al.length c1, .slice a2 pl.length c2] 26)).heap.size (w.alloc (.cells #[.int .u8 k, .int .u64 s, .int .u64 u, .slice a1 al.length c1, .slice a2 pl.length c2] 26)) X → X.cell? ⟨w.heap.size, 0, none⟩ = some (.int .u8 k) ∧ X.cell? ⟨w.heap.size, 1, none⟩ = some (.int .u64 s) ∧ X.cell? ⟨w.heap.size, 2, none⟩ = some (.int .u64 u) ∧ X.cell? ⟨w.heap.size, 3, none⟩ = some (.slice a1 al.length c1) ∧ X.cell? ⟨w.heap.size, 4, none⟩ = some (.slice a2 pl.length c2)) := fun X hX => by
    have q1 := (hX.block w.heap.size (by simp)).trans (al_at rfl)
    exact ⟨(cells_of_block q1).1 0, (cells_of_block q1).1 1, (cells_of_block q1).1 2, (cells_of_block q1).1 3, (cells_of_block q1).1 4⟩
  have hlen := h2.len
  have hlen' : (pl.length : Int) ≤ 9223372036854775807 := by omega
  have hP : Hid _ := pds_at h2
  clear h1 h2
  by_cases hlo : pl.length < 1
  · have hlo' : (pl.length : Int) < 1 := by omega
    have hr : Hid (K = false) := by unfold Hid; rw [hsb.out, decide_eq_false (by omega)]; simp
    clear hsb hO' hT hA hkeep
    go_enter Try.func45, Try.ntmps45
    go_wp2
    go_ret
    rw [hr.out]
    exact ⟨rfl, hb0⟩
  by_cases hhi : 16 < pl.length
  · have hhi' : (16 : Int) < (pl.length : Int) := by omega
    have hlo' : ¬ (pl.length : Int) < 1 := by omega
    have hr : Hid (K = false) := by unfold Hid; rw [hsb.out, decide_eq_false (by omega : ¬ pl.length ≤ 16)]; simp
    clear hsb hO' hT hA hkeep
    go_enter Try.func45, Try.ntmps45
    go_wp2
    go_ret
    rw [hr.out]
    exact ⟨rfl, hb0⟩
  have hlo' : ¬ (pl.length : Int) < 1 := by omega
  have hhi' : ¬ (16 : Int) < (pl.length : Int) := by omega
  rw [decide_eq_true (by omega : 1 ≤ pl.length), decide_eq_true (by omega : pl.length ≤ 16)] at hsb
  go_enter Try.func45, Try.ntmps45
  go_wp2
  generalize w.alloc (.cells #[.int .u8 k, .int .u64 s, .int .u64 u, .slice a1 al.length c1, .slice a2 pl.length c2] 26) = P at *
  go_loopw [22] (fun iv X => ∃ (i : Nat), i ≤ pl.length ∧ iv = .int .i64 (i : Int) ∧ Hid (∀ q ∈ pl.take i, pdR q = true) ∧ Below P.heap.size P X) (fun iv _ => pl.length - (intOf iv).toNat)
  case atStart => exact ⟨0, by omega, rfl, by unfold Hid; simp, Below.refl _ _⟩
  case round =>
    obtain ⟨i, hi, rfl, hc, hX⟩ := hrel
    have hXw : Below w.heap.size w wr := hb0.trans (hX.mono (by omega))
    by_cases hlt : i < pl.length
    · have hlt' : (i : Int) < (pl.length : Int) := by omega
      obtain ⟨blk, off, rfl, hbl, hA1⟩ := hP.out i pl[i] (List.getElem?_eq_getElem hlt)
      obtain ⟨d0, d1, hxc⟩ := hA1.below hbl hXw
      obtain ⟨a3, c3, ev1⟩ := hxc.slice
      have hq := hwf pl[i] (List.getElem_mem hlt)
      rw [ev1] at d1 hxc
      have hbx : Below wr.heap.size wr (wr.alloc (.cells #[.int .u64 pl[i].n, .slice a3 pl[i].l.length c3] 73)) := ba (Below.refl _ _) _
      have hS := some_any _ (hxc.below hbx) hq.l
      have hpd : Hid (pdR pl[i] = (decide (1 ≤ pl[i].n) && someB pl[i].l)) := rfl
      have hbad : Hid (pdR pl[i] = false → K = false) := by
        intro e
        rw [hsb.out]
        have : pl.all pdR = false := by
          rw [Bool.eq_false_iff]; intro e2
          have := List.all_eq_true.1 e2 pl[i] (List.getElem_mem hlt)
          rw [e] at this; cases this
        rw [this]; simp
      by_cases hn : pl[i].n < 1
      · have hr : Hid (K = false) := hbad.out (by rw [hpd.out, decide_eq_false (by omega)]; rfl)
        clear hsb hO' hT hA hkeep hS hpd hbad
        go_wp2
        go_ret
        rw [hr.out]
        exact ⟨rfl, ba hXw _⟩
      · cases hsm : someB pl[i].l
        · have hr : Hid (K = false) := hbad.out (by rw [hpd.out, hsm]; simp)
          rw [hsm] at hS
          clear hsb hO' hT hA hkeep hpd hbad hsm
          go_wp2_with (go_at_call 77; refine hS.mono ?_; rintro e w1 ⟨rfl, hb1⟩)
          go_ret
          rw [hr.out]
          exact ⟨rfl, bt (ba hXw _) hb1⟩
        · rw [hsm] at hS
          have hc2 : Hid (∀ q ∈ pl.take (i + 1), pdR q = true) := by
            intro q hq'
            rw [List.take_succ_eq_append_getElem hlt] at hq'
            rcases List.mem_append.1 hq' with h | h
            · exact hc.out q h
            · rw [List.mem_singleton] at h
              subst h
              rw [hpd.out, hsm, decide_eq_true (by omega : 1 ≤ pl[i].n)]; rfl
          clear hsb hO' hT hA hkeep hpd hbad hsm hc
          go_wp2_with (go_at_call 77; refine hS.mono ?_; rintro e w1 ⟨rfl, hb1⟩)
          all_goals go_roundw
          case rel => exact ⟨i + 1, by omega, by go_num, hc2, bt (ba hX _) hb1⟩
          case measure => (simp [intOf]; omega)
    · obtain rfl : i = pl.length := by omega
      rw [List.take_length] at hc
      have hall : pl.all pdR = true := List.all_eq_true.2 hc.out
      have hrt : Hid (∀ q ∈ pl, rightFrom 0 q.l = true) := fun q hq => by
        have := hc.out q hq
        simp only [pdR, Bool.and_eq_true] at this
        exact some_right this.2
      rw [hall] at hsb
      have hpur := sumP_purse hwf
      obtain ⟨k0, k1, k2, k3, k4⟩ := hkeep.out _ hX
      have hT' : Hid (∀ X, Below w.heap.size w X → Calls Try.prog 50 #[.slice a2 pl.length c2] X _) := fun X hX => hT.out X hX hrt.out
      have hle := ovN_le pl s u
      generalize ovN pl s u = o at *
      obtain ⟨o1, o2⟩ := o
      simp only at hsb hO' hle
      clear hall hT hrt hc hP
      by_cases hm : o1 = pl.length
      · subst hm
        by_cases he : o2 = u
        · subst he
          rw [decide_eq_true rfl, decide_eq_true rfl] at hsb
          by_cases hf : ∀ d, d < 8 → tot pl d < 115792089237316195423570985008687907853269984665640564039457584007913129639936
          · have hr : Hid (K = allB eqB (lst (sumP pl) 8) (lst (amP al) 8) 8) := by
              unfold Hid
              rw [hsb.out, allB_eq (hpur hf) hyA]
              simp [sumP_vl]
            have hz := hpur hf
            clear hsb hpur
            go_wp2_with (first
              | (go_at_call 49; refine (hO'.out _ hXw).mono ?_; rintro e w1 ⟨rfl, hb1⟩; have hX1 := bt hXw hb1; obtain ⟨m0, m1, m2, m3, m4⟩ := hkeep.out _ (bt hX hb1))
              | (go_at_call 50; refine (hT'.out _ hX1).mono ?_; rintro e w2 (⟨_, u, rfl, hu, hb2⟩ | ⟨hex, rfl, hb2⟩); rotate_left; obtain ⟨d, hd, e⟩ := hex; have := hf d hd; omega; obtain ⟨au, cu, rfl⟩ := hu.sl; have hu : Hid _ := hu; obtain ⟨n0, n1, n2, n3, n4⟩ := hkeep.out _ (bt (bt hX hb1) hb2))
              | (go_at_call 78; refine (sameP_raw hz hyA _ hu.out (hA.out _ (bt hX1 hb2))).mono ?_; rintro e w3 ⟨rfl, hb3⟩))
            go_ret
            rw [hr.out]
            exact ⟨by simp, bt (bt hX1 hb2) hb3⟩
          · have hr : Hid (K = false) := by
              unfold Hid
              have hex : ∃ d, d < 8 ∧ 115792089237316195423570985008687907853269984665640564039457584007913129639936 ≤ tot pl d := Classical.byContradiction fun hn => hf fun d hd => Int.not_le.1 fun e => hn ⟨d, hd, e⟩
              rw [hsb.out, all8_le hex hvA.out]
              simp
            go_wp2_with (first
              | (go_at_call 49; refine (hO'.out _ hXw).mono ?_; rintro e w1 ⟨rfl, hb1⟩; have hX1 := bt hXw hb1; obtain ⟨m0, m1, m2, m3, m4⟩ := hkeep.out _ (bt hX hb1))
              | (go_at_call 50; refine (hT'.out _ hX1).mono ?_; rintro e w2 (⟨_, u, rfl, hu, hb2⟩ | ⟨hex, rfl, hb2⟩); exact absurd ‹_› hf; obtain ⟨n0, n1, n2, n3, n4⟩ := hkeep.out _ (bt (bt hX hb1) hb2)))
            go_ret
            rw [hr.out]
            exact ⟨by simp, bt hX1 hb2⟩
        · have hr : Hid (K = false) := by unfold Hid; rw [hsb.out, decide_eq_false he]; simp
          have hd2 : (o2 == u) = false := by simpa using he
          go_wp2_with (first
            | (go_at_call 49; refine (hO'.out _ hXw).mono ?_; rintro e w1 ⟨rfl, hb1⟩; have hX1 := bt hXw hb1; obtain ⟨m0, m1, m2, m3, m4⟩ := hkeep.out _ (bt hX hb1))
            | (go_at_call 50; refine (hT'.out _ hX1).mono ?_; rintro e w2 (⟨_, u2, rfl, hu, hb2⟩ | ⟨_, rfl, hb2⟩); obtain ⟨n0, n1, n2, n3, n4⟩ := hkeep.out _ (bt (bt hX hb1) hb2); obtain ⟨au, cu, rfl⟩ := hu.sl; rotate_left; obtain ⟨n0, n1, n2, n3, n4⟩ := hkeep.out _ (bt (bt hX hb1) hb2)))
          all_goals go_wp2
          all_goals go_ret
          all_goals rw [hr.out]
          all_goals exact ⟨by simp, bt hX1 hb2⟩
      · have hr : Hid (K = false) := by unfold Hid; rw [hsb.out, decide_eq_false hm]; simp
        have hd2 : ((o1 : Int) == (pl.length : Int)) = false := by simp; omega
        have hd3 : ¬ (o1 : Int) = (pl.length : Int) := by omega
        go_wp2_with (first
          | (go_at_call 49; refine (hO'.out _ hXw).mono ?_; rintro e w1 ⟨rfl, hb1⟩; have hX1 := bt hXw hb1; obtain ⟨m0, m1, m2, m3, m4⟩ := hkeep.out _ (bt hX hb1))
          | (go_at_call 50; refine (hT'.out _ hX1).mono ?_; rintro e w2 (⟨_, u2, rfl, hu, hb2⟩ | ⟨_, rfl, hb2⟩); obtain ⟨n0, n1, n2, n3, n4⟩ := hkeep.out _ (bt (bt hX hb1) hb2); obtain ⟨au, cu, rfl⟩ := hu.sl; rotate_left; obtain ⟨n0, n1, n2, n3, n4⟩ := hkeep.out _ (bt (bt hX hb1) hb2)))
        all_goals go_wp2
        all_goals go_ret
        all_goals rw [hr.out]
        all_goals exact ⟨by simp, bt hX1 hb2⟩
end Go.Proofs.Ytmfnfnegnfpkiaa

/- plan.Right. -/
namespace Go.Proofs.Ytmfnfnegnfpkiaa
open Go.RowKit
section
variable {s t : Int} {a1 a2 : Option Addr} {c1 c2 : Nat} {al : List Cn} {pl : List Pd}
set_option maxHeartbeats 4000000 in
theorem planRight_2 (w : World) (h : PnAt w ⟨2, s, t, .slice a1 al.length c1, .slice a2 pl.length c2, al, pl⟩) (hw : PnWf ⟨2, s, t, .slice a1 al.length c1, .slice a2 pl.length c2, al, pl⟩) :
    Calls Try.prog 13 #[.agg #[.int .u8 2, .int .u64 s, .int .u64 t, .slice a1 al.length c1, .slice a2 pl.length c2]] w fun e w' => e = .returned (.bool (s == 0 && givesB ⟨2, s, t, .slice a1 al.length c1, .slice a2 pl.length c2, al, pl⟩ && pl.isEmpty)) ∧ Below w.heap.size w w' := by
  have hb : Below w.heap.size w (w.alloc (.cells #[.int .u8 2, .int .u64 s, .int .u64 t, .slice a1 al.length c1, .slice a2 pl.length c2] 26)) := ba (Below.refl _ _) _
  have hG := gives_any _ (h.below hb) hw
  have hG' : Calls Try.prog 44 #[.agg #[.int .u8 2, .int .u64 s, .int .u64 t, .slice a1 al.length c1, .slice a2 pl.length c2]] _ _ := hG
  have hkeep : Hid (∀ X, Below (w.alloc (.cells #[.int .u8 2, .int .u64 s, .int .u64 t, .slice a1 al.length c1, .slice a2 pl.length c2] 26)).heap.size (w.alloc (.cells #[.int .u8 2, .int .u64 s, .int .u64 t, .slice a1 al.length c1, .slice a2 pl.length c2] 26)) X → X.cell? ⟨w.heap.size, 4, none⟩ = some (.slice a2 pl.length c2)) := fun X hX => by
    have q1 := (hX.block w.heap.size (by simp)).trans (al_at rfl)
    exact (cells_of_block q1).1 4
  have hpn := h.2.len
  clear hG
  by_cases hs : s = 0
  · subst hs
    cases hg : givesB ⟨2, 0, t, .slice a1 al.length c1, .slice a2 pl.length c2, al, pl⟩
    · rw [hg] at hG'
      go_enter Try.func13, Try.ntmps13
      go_wp2_with (go_at_call 44; refine hG'.mono ?_; rintro e w1 ⟨rfl, hb1⟩)
      go_ret
      exact ⟨by simp, bt hb hb1⟩
    · rw [hg] at hG'
      go_enter Try.func13, Try.ntmps13
      go_wp2_with (go_at_call 44; refine hG'.mono ?_; rintro e w1 ⟨rfl, hb1⟩; have q := hkeep.out _ hb1)
      go_ret
      refine ⟨?_, bt hb hb1⟩
      cases pl with
      | nil => simp
      | cons y pl => simp; omega
  · skip
    have hd : (s == 0) = false := by simpa using hs
    clear hG' hkeep
    go_enter Try.func13, Try.ntmps13
    go_wp2
    go_ret
    exact ⟨by simp [hd], hb⟩
set_option maxHeartbeats 4000000 in
theorem planRight_4 (w : World) (h : PnAt w ⟨4, s, t, .slice a1 al.length c1, .slice a2 pl.length c2, al, pl⟩) (hw : PnWf ⟨4, s, t, .slice a1 al.length c1, .slice a2 pl.length c2, al, pl⟩) :
    Calls Try.prog 13 #[.agg #[.int .u8 4, .int .u64 s, .int .u64 t, .slice a1 al.length c1, .slice a2 pl.length c2]] w fun e w' => e = .returned (.bool (s == 0 && t == 0 && givesB ⟨4, s, t, .slice a1 al.length c1, .slice a2 pl.length c2, al, pl⟩ && pl.isEmpty)) ∧ Below w.heap.size w w' := by
  have hb : Below w.heap.size w (w.alloc (.cells #[.int .u8 4, .int .u64 s, .int .u64 t, .slice a1 al.length c1, .slice a2 pl.length c2] 26)) := ba (Below.refl _ _) _
  have hG := gives_any _ (h.below hb) hw
  have hG' : Calls Try.prog 44 #[.agg #[.int .u8 4, .int .u64 s, .int .u64 t, .slice a1 al.length c1, .slice a2 pl.length c2]] _ _ := hG
  have hkeep : Hid (∀ X, Below (w.alloc (.cells #[.int .u8 4, .int .u64 s, .int .u64 t, .slice a1 al.length c1, .slice a2 pl.length c2] 26)).heap.size (w.alloc (.cells #[.int .u8 4, .int .u64 s, .int .u64 t, .slice a1 al.length c1, .slice a2 pl.length c2] 26)) X → X.cell? ⟨w.heap.size, 4, none⟩ = some (.slice a2 pl.length c2)) := fun X hX => by
    have q1 := (hX.block w.heap.size (by simp)).trans (al_at rfl)
    exact (cells_of_block q1).1 4
  have hpn := h.2.len
  clear hG
  by_cases hs : s = 0
  · subst hs
    by_cases ht : t = 0
    · subst ht
      cases hg : givesB ⟨4, 0, 0, .slice a1 al.length c1, .slice a2 pl.length c2, al, pl⟩
      · rw [hg] at hG'
        go_enter Try.func13, Try.ntmps13
        go_wp2_with (go_at_call 44; refine hG'.mono ?_; rintro e w1 ⟨rfl, hb1⟩)
        go_ret
        exact ⟨by simp, bt hb hb1⟩
      · rw [hg] at hG'
        go_enter Try.func13, Try.ntmps13
        go_wp2_with (go_at_call 44; refine hG'.mono ?_; rintro e w1 ⟨rfl, hb1⟩; have q := hkeep.out _ hb1)
        go_ret
        refine ⟨?_, bt hb hb1⟩
        cases pl with
        | nil => simp
        | cons y pl => simp; omega
    · skip
      have hd : (t == 0) = false := by simpa using ht
      clear hG' hkeep
      go_enter Try.func13, Try.ntmps13
      go_wp2
      go_ret
      exact ⟨by simp [hd], hb⟩
  · skip
    have hd : (s == 0) = false := by simpa using hs
    clear hG' hkeep
    go_enter Try.func13, Try.ntmps13
    go_wp2
    go_ret
    exact ⟨by simp [hd], hb⟩
set_option maxHeartbeats 4000000 in
theorem planRight_3 (w : World) (h : PnAt w ⟨3, s, t, .slice a1 al.length c1, .slice a2 pl.length c2, al, pl⟩) (ho : PnOk ⟨3, s, t, .slice a1 al.length c1, .slice a2 pl.length c2, al, pl⟩) :
    Calls Try.prog 13 #[.agg #[.int .u8 3, .int .u64 s, .int .u64 t, .slice a1 al.length c1, .slice a2 pl.length c2]] w fun e w' => e = .returned (.bool (givesB ⟨3, s, t, .slice a1 al.length c1, .slice a2 pl.length c2, al, pl⟩ && stepsB ⟨3, s, t, .slice a1 al.length c1, .slice a2 pl.length c2, al, pl⟩)) ∧ Below w.heap.size w w' := by
  have hb : Below w.heap.size w (w.alloc (.cells #[.int .u8 3, .int .u64 s, .int .u64 t, .slice a1 al.length c1, .slice a2 pl.length c2] 26)) := ba (Below.refl _ _) _
  have hG := gives_any _ (h.below hb) ho.w
  have hG' : Calls Try.prog 44 #[.agg #[.int .u8 3, .int .u64 s, .int .u64 t, .slice a1 al.length c1, .slice a2 pl.length c2]] _ _ := hG
  have hkeep : Hid (∀ X, Below (w.alloc (.cells #[.int .u8 3, .int .u64 s, .int .u64 t, .slice a1 al.length c1, .slice a2 pl.length c2] 26)).heap.size (w.alloc (.cells #[.int .u8 3, .int .u64 s, .int .u64 t, .slice a1 al.length c1, .slice a2 pl.length c2] 26)) X → X.cell? ⟨w.heap.size, 0, none⟩ = some (.int .u8 3) ∧ X.cell? ⟨w.heap.size, 1, none⟩ = some (.int .u64 s) ∧ X.cell? ⟨w.heap.size, 2, none⟩ = some (.int .u64 t) ∧ X.cell? ⟨w.heap.size, 3, none⟩ = some (.slice a1 al.length c1) ∧ X.cell? ⟨w.heap.size, 4, none⟩ = some (.slice a2 pl.length c2)) := fun X hX => by
    have q1 := (hX.block w.heap.size (by simp)).trans (al_at rfl)
    exact ⟨(cells_of_block q1).1 0, (cells_of_block q1).1 1, (cells_of_block q1).1 2, (cells_of_block q1).1 3, (cells_of_block q1).1 4⟩
  clear hG
  cases hg : givesB ⟨3, s, t, .slice a1 al.length c1, .slice a2 pl.length c2, al, pl⟩
  · rw [hg] at hG'
    clear hkeep
    go_enter Try.func13, Try.ntmps13
    go_wp2_with (go_at_call 44; refine hG'.mono ?_; rintro e w1 ⟨rfl, hb1⟩)
    go_ret
    exact ⟨by simp, bt hb hb1⟩
  · have hS : Hid (∀ X, Below w.heap.size w X → Calls Try.prog 45 #[.agg #[.int .u8 3, .int .u64 s, .int .u64 t, .slice a1 al.length c1, .slice a2 pl.length c2]] X fun e w' => e = .returned (.bool (stepsB ⟨3, s, t, .slice a1 al.length c1, .slice a2 pl.length c2, al, pl⟩)) ∧ Below X.heap.size X w') := fun X hX => steps_any X (h.below hX) ho (gives_right hg)
    rw [hg] at hG'
    generalize stepsB ⟨3, s, t, .slice a1 al.length c1, .slice a2 pl.length c2, al, pl⟩ = K at *
    go_enter Try.func13, Try.ntmps13
    go_wp2_with (first
      | (go_at_call 44; refine hG'.mono ?_; rintro e w1 ⟨rfl, hb1⟩; obtain ⟨q0, q1, q2, q3, q4⟩ := hkeep.out _ hb1)
      | (go_at_call 45; refine (hS.out _ (bt hb hb1)).mono ?_; rintro e w2 ⟨rfl, hb2⟩))
    go_ret
    exact ⟨by simp, bt (bt hb hb1) hb2⟩
set_option maxHeartbeats 4000000 in
theorem planRight_5 (w : World) (h : PnAt w ⟨5, s, t, .slice a1 al.length c1, .slice a2 pl.length c2, al, pl⟩) (ho : PnOk ⟨5, s, t, .slice a1 al.length c1, .slice a2 pl.length c2, al, pl⟩) :
    Calls Try.prog 13 #[.agg #[.int .u8 5, .int .u64 s, .int .u64 t, .slice a1 al.length c1, .slice a2 pl.length c2]] w fun e w' => e = .returned (.bool (givesB ⟨5, s, t, .slice a1 al.length c1, .slice a2 pl.length c2, al, pl⟩ && stepsB ⟨5, s, t, .slice a1 al.length c1, .slice a2 pl.length c2, al, pl⟩)) ∧ Below w.heap.size w w' := by
  have hb : Below w.heap.size w (w.alloc (.cells #[.int .u8 5, .int .u64 s, .int .u64 t, .slice a1 al.length c1, .slice a2 pl.length c2] 26)) := ba (Below.refl _ _) _
  have hG := gives_any _ (h.below hb) ho.w
  have hG' : Calls Try.prog 44 #[.agg #[.int .u8 5, .int .u64 s, .int .u64 t, .slice a1 al.length c1, .slice a2 pl.length c2]] _ _ := hG
  have hkeep : Hid (∀ X, Below (w.alloc (.cells #[.int .u8 5, .int .u64 s, .int .u64 t, .slice a1 al.length c1, .slice a2 pl.length c2] 26)).heap.size (w.alloc (.cells #[.int .u8 5, .int .u64 s, .int .u64 t, .slice a1 al.length c1, .slice a2 pl.length c2] 26)) X → X.cell? ⟨w.heap.size, 0, none⟩ = some (.int .u8 5) ∧ X.cell? ⟨w.heap.size, 1, none⟩ = some (.int .u64 s) ∧ X.cell? ⟨w.heap.size, 2, none⟩ = some (.int .u64 t) ∧ X.cell? ⟨w.heap.size, 3, none⟩ = some (.slice a1 al.length c1) ∧ X.cell? ⟨w.heap.size, 4, none⟩ = some (.slice a2 pl.length c2)) := fun X hX => by
    have q1 := (hX.block w.heap.size (by simp)).trans (al_at rfl)
    exact ⟨(cells_of_block q1).1 0, (cells_of_block q1).1 1, (cells_of_block q1).1 2, (cells_of_block q1).1 3, (cells_of_block q1).1 4⟩
  clear hG
  cases hg : givesB ⟨5, s, t, .slice a1 al.length c1, .slice a2 pl.length c2, al, pl⟩
  · rw [hg] at hG'
    clear hkeep
    go_enter Try.func13, Try.ntmps13
    go_wp2_with (go_at_call 44; refine hG'.mono ?_; rintro e w1 ⟨rfl, hb1⟩)
    go_ret
    exact ⟨by simp, bt hb hb1⟩
  · have hS : Hid (∀ X, Below w.heap.size w X → Calls Try.prog 45 #[.agg #[.int .u8 5, .int .u64 s, .int .u64 t, .slice a1 al.length c1, .slice a2 pl.length c2]] X fun e w' => e = .returned (.bool (stepsB ⟨5, s, t, .slice a1 al.length c1, .slice a2 pl.length c2, al, pl⟩)) ∧ Below X.heap.size X w') := fun X hX => steps_any X (h.below hX) ho (gives_right hg)
    rw [hg] at hG'
    generalize stepsB ⟨5, s, t, .slice a1 al.length c1, .slice a2 pl.length c2, al, pl⟩ = K at *
    go_enter Try.func13, Try.ntmps13
    go_wp2_with (first
      | (go_at_call 44; refine hG'.mono ?_; rintro e w1 ⟨rfl, hb1⟩; obtain ⟨q0, q1, q2, q3, q4⟩ := hkeep.out _ hb1)
      | (go_at_call 45; refine (hS.out _ (bt hb hb1)).mono ?_; rintro e w2 ⟨rfl, hb2⟩))
    go_ret
    exact ⟨by simp, bt (bt hb hb1) hb2⟩
end
theorem planRight_any {x : Pn} (w : World) (h : PnAt w x) (ho : PnOk x) :
    Calls Try.prog 13 #[pnV x] w fun e w' => e = .returned (.bool (rightB x)) ∧ Below w.heap.size w w' := by
  obtain ⟨k, s, t, av, pv, al, pl⟩ := x
  obtain ⟨a1, c1, e1⟩ := h.1.slice
  obtain ⟨a2, c2, e2⟩ := h.2.slice
  simp only at e1 e2
  subst e1 e2
  have hk := ho.w.k
  simp only at hk
  by_cases h0 : k = 0
  · subst h0
    exact planRight_0 w h
  by_cases h1 : k = 1
  · subst h1
    exact planRight_1 w h ho.w
  by_cases h2 : k = 2
  · subst h2
    exact planRight_2 w h ho.w
  by_cases h3 : k = 3
  · subst h3
    exact planRight_3 w h ho
  by_cases h4 : k = 4
  · subst h4
    exact planRight_4 w h ho.w
  by_cases h5 : k = 5
  · subst h5
    exact planRight_5 w h ho
  have e : rightB ⟨k, s, t, .slice a1 al.length c1, .slice a2 pl.length c2, al, pl⟩ = false := by
    unfold rightB rightN
    simp only
    rw [if_neg (by omega), if_neg h0, if_neg h1, if_neg h2, if_neg h4]
  rw [e]
  exact planRight_6 k (by omega) hk.2 w _ _
end Go.Proofs.Ytmfnfnegnfpkiaa

/- jointurelaw06.plans of any kind; what a plan that was made answers. -/
namespace Go.Proofs.Ytmfnfnegnfpkiaa
open Go.ChangeShapes Go.WideShapes Go.ChangeAt Go.RowKit

theorem plans6_any {w : World} {y : Md} (h : MdIn w y) (hf : fewM y = true) (W : World) (hB : Below w.heap.size w W) :
    Calls Try.prog 16 #[mdV y] W fun e w' => MadeOk W w' e := by
  obtain ⟨k, s, n, a1, n1, c1, a2, n2, c2, l, ps⟩ := y
  have hk := h.k
  have hn1 : n1 ≤ 20 := by
    simp only [fewM, Bool.and_eq_true, decide_eq_true_eq] at hf
    exact hf.1.1
  simp only at hk
  have h6 : k % 6 = 0 ∨ k % 6 = 1 ∨ k % 6 = 2 ∨ k % 6 = 3 ∨ k % 6 = 4 ∨ k % 6 = 5 := by omega
  rcases h6 with h6 | h6 | h6 | h6 | h6 | h6
  · exact plans_0 h h6 hn1 W hB
  · exact plans_1 h h6 hn1 W hB
  · exact plans_2 h h6 hn1 W hB
  · exact plans_3 h h6 hf W hB
  · exact plans_4 h h6 hn1 W hB
  · exact plans_5 h h6 hf W hB
/-- What holds of a plan that was made, where it is. -/
structure MF (X : World) (x : Pn) : Prop where
  at' : PnAt X x
  ok : PnOk x
  rb : rightB x = true
  cap : ∃ a n c, x.pv = .slice a n c ∧ n ≤ c
theorem MF.below {X Y : World} {x : Pn} (h : MF X x) (hb : Below X.heap.size X Y) : MF Y x := ⟨h.at'.below hb, h.ok, h.rb, h.cap⟩
theorem plansS_any {w : World} {y : Md} (h : MdIn w y) (hf : fewM y = true) (W : World) (hB : Below w.heap.size w W) :
    Calls Try.prog 16 #[mdV y] W fun e w' => ∃ (k s u : Int) (a1 : Option Addr) (n1 c1 : Nat) (a2 : Option Addr) (n2 c2 : Nat) (x : Pn), e = .returned (.agg #[.int .u8 k, .int .u64 s, .int .u64 u, .slice a1 n1 c1, .slice a2 n2 c2]) ∧ Hid (x = ⟨k, s, u, .slice a1 n1 c1, .slice a2 n2 c2, x.al, x.pl⟩) ∧ Hid (MF w' x) ∧ Below W.heap.size W w' := by
  refine (plans6_any h hf W hB).mono ?_
  rintro e w' ⟨⟨k, s, u, av, pv, al, pl⟩, rfl, h1, h2, h3, h4, h5⟩
  have h1' := h1
  obtain ⟨i1, i2⟩ := h1
  simp only at i1 i2
  obtain ⟨a1, c1, rfl⟩ := i1.slice
  obtain ⟨a2, c2, rfl⟩ := i2.slice
  exact ⟨k, s, u, a1, _, c1, a2, _, c2, ⟨k, s, u, .slice a1 al.length c1, .slice a2 pl.length c2, al, pl⟩, rfl, rfl, ⟨h1', h2, h3, h4⟩, h5⟩
theorem coins_len {W : World} {a : Option Addr} {n c : Nat} {l : List Cn} (h : IsCoins W (.slice a n c) l) : n = l.length := by
  obtain ⟨_, _, e⟩ := h.sl
  injection e with _ e2 _
theorem addK {va vb : Value} {z y : Nat → Cn} {w : World} {Q : Ending → World → Prop} (hz : Purse z) (hy : Purse y) (hf : ∀ d, d < 8 → vl (z d) + vl (y d) < 115792089237316195423570985008687907853269984665640564039457584007913129639936) (hA : IsCoins w va (lst z 8)) (hB : IsCoins w vb (lst y 8))
    (hQ : ∀ e w', (∃ a n c, e = .returned (.tuple #[.slice a n c, .bool true]) ∧ IsCoins w' (.slice a n c) (lst (opP (· + ·) z y) 8) ∧ Below w.heap.size w w') → Q e w') : Calls Try.prog 22 #[va, vb] w Q :=
  (addRC_fit hz hy hf w hA hB).mono fun e w' ⟨u, h1, h2, h3⟩ => hQ e w' (by obtain ⟨a, c, rfl⟩ := h2.sl; exact ⟨a, _, c, h1, h2, h3⟩)
theorem rightK {v : Value} {l : List Cn} {w : World} {Q : Ending → World → Prop} (h : IsCL w v l) (hwf : ∀ x ∈ l, CnWf x) (hr : rightFrom 0 l = true) (hQ : ∀ e w', (e = .returned (.bool true) ∧ Below w.heap.size w w') → Q e w') : Calls Try.prog 24 #[v] w Q := by
  have := rightRCL_any w h hwf
  rw [hr] at this
  exact this.mono hQ
theorem hidI {W : World} {v : Value} {l : List Cn} (h : IsCoins W v l) : Hid (IsCoins W v l) := h
theorem sameK {va vb : Value} {p q : List Cn} {w : World} {Q : Ending → World → Prop} (hA : IsCL w va p) (hB : IsCL w vb q)
    (hQ : ∀ e w', (e = .returned (.bool (clB p q)) ∧ Below w.heap.size w w') → Q e w') : Calls Try.prog 17 #[va, vb] w Q :=
  (sameCL_any w hA hB).mono hQ
/-- What of a plan that was made is free, and locked. -/
theorem mf_vested {x : Pn} {t : Int} {X : World} (h : MF X x) (ht : 0 ≤ t ∧ t < 18446744073709551616) : Hid (∀ Y, Below X.heap.size X Y → Calls Try.prog 18 #[pnV x, .int .u64 t] Y fun e w' => ∃ a c, e = .returned (.slice a (lst (vestP x t) 8).length c) ∧ IsCoins w' (.slice a (lst (vestP x t) 8).length c) (lst (vestP x t) 8) ∧ Below Y.heap.size Y w') := fun Y hY => by
  refine Calls.mono (vested_any Y (h.at'.below hY) h.ok (right_facts h.rb) ht h.cap) ?_
  rintro e w' ⟨a, n, c, rfl, h1, h2⟩
  obtain rfl := coins_len h1
  exact ⟨a, c, rfl, h1, h2⟩
theorem mf_locked {x : Pn} {t : Int} {X : World} (h : MF X x) (ht : 0 ≤ t ∧ t < 18446744073709551616) : Hid (∀ Y, Below X.heap.size X Y → Calls Try.prog 20 #[pnV x, .int .u64 t] Y fun e w' => ∃ a c, e = .returned (.slice a (lst (lockP x t) 8).length c) ∧ IsCoins w' (.slice a (lst (lockP x t) 8).length c) (lst (lockP x t) 8) ∧ Below Y.heap.size Y w') := fun Y hY => by
  refine Calls.mono (locked_any Y (h.at'.below hY) h.ok (right_facts h.rb) ht h.cap) ?_
  rintro e w' ⟨a, n, c, rfl, h1, h2⟩
  obtain rfl := coins_len h1
  exact ⟨a, c, rfl, h1, h2⟩
theorem mf_right {x : Pn} {X : World} (h : MF X x) : Hid (∀ Y, Below X.heap.size X Y → Calls Try.prog 13 #[pnV x] Y fun e w' => e = .returned (.bool true) ∧ Below Y.heap.size Y w') := fun Y hY => by
  have := planRight_any Y (h.at'.below hY) h.ok
  rwa [h.rb] at this
theorem mf_coins {x : Pn} {X : World} (h : MF X x) : Hid (∀ Y, Below X.heap.size X Y → IsCoins Y x.av (lst (amP x.al) 8)) := fun Y hY => al_coins (h.at'.below hY) (right_facts h.rb)
section
variable {H : Type} {enc : TypeId × Value → H} {w : World} {base : Nat} {spare : Nat → Bool} {held : Bool} {fuel : Nat} {cs : List Value} {x : DataW H × List MemPlace}
theorem u64_in {n : Int} (h : DataW.trod enc Try.prog w base spare held fuel 22 [.int .u64 n] = some x) : 0 ≤ n ∧ n < 18446744073709551616 := by
  obtain ⟨d, ed, -, wd⟩ := DataW.trod_int Try.underlying22 h
  simp at ed
  subst ed
  have := bounds_u64 wd
  omega
end
end Go.Proofs.Ytmfnfnegnfpkiaa

/- The reference's Right of plans, but for those with periods. -/
namespace Go.Proofs.Ytmfnfnegnfpkiaa
open Go.RowKit
section
variable {k s t : Int} {a1 a2 : Option Addr} {c1 c2 : Nat} {al : List Cn} {pl : List Pd}
set_option maxHeartbeats 4000000 in
theorem rightR6_0 (w : World) (h : PnAt w ⟨0, s, t, .slice a1 al.length c1, .slice a2 pl.length c2, al, pl⟩) :
    Calls Try.prog 14 #[.agg #[.int .u8 0, .int .u64 s, .int .u64 t, .slice a1 al.length c1, .slice a2 pl.length c2]] w fun e w' => e = .returned (.bool (s == 0 && t == 0 && al.isEmpty && pl.isEmpty)) ∧ Below w.heap.size w w' := by
  have hb : Below w.heap.size w (w.alloc (.cells #[.int .u8 0, .int .u64 s, .int .u64 t, .slice a1 al.length c1, .slice a2 pl.length c2] 26)) := ba (Below.refl _ _) _
  have hl1 := h.1.len
  have hl2 := h.2.len
  clear h
  by_cases hs : s = 0
  · subst hs
    by_cases ht : t = 0
    · subst ht
      cases al with
      | nil =>
        cases pl with
        | nil =>
          go_enter Try.func14, Try.ntmps14
          go_wp2
          go_ret
          exact ⟨rfl, hb⟩
        | cons y pl =>
          generalize hn : (y :: pl).length = n at *
          have hn0 : 0 < n := by rw [← hn]; simp
          have hd : ((n : Int) == 0) = false := by simp; omega
          have hd' : ¬ (n : Int) = 0 := by omega
          clear hn
          go_enter Try.func14, Try.ntmps14
          go_wp2
          go_ret
          exact ⟨by simp, hb⟩
      | cons y al =>
        generalize hn : (y :: al).length = n at *
        have hn0 : 0 < n := by rw [← hn]; simp
        have hd : ((n : Int) == 0) = false := by simp; omega
        have hd' : ¬ (n : Int) = 0 := by omega
        clear hn
        go_enter Try.func14, Try.ntmps14
        go_wp2
        go_ret
        exact ⟨by simp, hb⟩
    · have hd : (t == 0) = false := by simpa using ht
      go_enter Try.func14, Try.ntmps14
      go_wp2
      go_ret
      exact ⟨by simp [hd], hb⟩
  · have hd : (s == 0) = false := by simpa using hs
    go_enter Try.func14, Try.ntmps14
    go_wp2
    go_ret
    exact ⟨by simp [hd], hb⟩
set_option maxHeartbeats 4000000 in
theorem rightR6_6 (hk : 5 < k) (w : World) (v1 v2 : Value) :
    Calls Try.prog 14 #[.agg #[.int .u8 k, .int .u64 s, .int .u64 t, v1, v2]] w fun e w' => e = .returned (.bool false) ∧ Below w.heap.size w w' := by
  have h0 : ¬ k = 0 := by omega
  go_enter Try.func14, Try.ntmps14
  go_wp2
  go_ret
  exact ⟨rfl, ba (Below.refl _ _) _⟩
set_option maxHeartbeats 4000000 in
theorem rightR6_no (hk0 : 0 < k) (hk5 : k ≤ 5) (w : World) (h : PnAt w ⟨k, s, t, .slice a1 al.length c1, .slice a2 pl.length c2, al, pl⟩) (hw : PnWf ⟨k, s, t, .slice a1 al.length c1, .slice a2 pl.length c2, al, pl⟩) (hg : givesB ⟨k, s, t, .slice a1 al.length c1, .slice a2 pl.length c2, al, pl⟩ = false) :
    Calls Try.prog 14 #[.agg #[.int .u8 k, .int .u64 s, .int .u64 t, .slice a1 al.length c1, .slice a2 pl.length c2]] w fun e w' => e = .returned (.bool false) ∧ Below w.heap.size w w' := by
  have h0 : ¬ k = 0 := by omega
  have h5 : ¬ 5 < k := by omega
  have hb : Below w.heap.size w (w.alloc (.cells #[.int .u8 k, .int .u64 s, .int .u64 t, .slice a1 al.length c1, .slice a2 pl.length c2] 26)) := ba (Below.refl _ _) _
  have hR := rightRCL_any _ (h.1.below hb) hw.al
  have hkeep : Hid (∀ X, Below (w.alloc (.cells #[.int .u8 k, .int .u64 s, .int .u64 t, .slice a1 al.length c1, .slice a2 pl.length c2] 26)).heap.size (w.alloc (.cells #[.int .u8 k, .int .u64 s, .int .u64 t, .slice a1 al.length c1, .slice a2 pl.length c2] 26)) X → X.cell? ⟨w.heap.size, 0, none⟩ = some (.int .u8 k) ∧ X.cell? ⟨w.heap.size, 1, none⟩ = some (.int .u64 s) ∧ X.cell? ⟨w.heap.size, 2, none⟩ = some (.int .u64 t) ∧ X.cell? ⟨w.heap.size, 3, none⟩ = some (.slice a1 al.length c1) ∧ X.cell? ⟨w.heap.size, 4, none⟩ = some (.slice a2 pl.length c2)) := fun X hX => by
    have q1 := (hX.block w.heap.size (by simp)).trans (al_at rfl)
    exact ⟨(cells_of_block q1).1 0, (cells_of_block q1).1 1, (cells_of_block q1).1 2, (cells_of_block q1).1 3, (cells_of_block q1).1 4⟩
  have hl1 := h.1.len
  have hg' : Hid ((!al.isEmpty && rightFrom 0 al && decide (t ≤ 1099511627776)) = false) := hg
  clear hg h hw
  simp only at hR
  by_cases ha : al = []
  · subst ha
    clear hR hkeep hg'
    go_enter Try.func14, Try.ntmps14
    go_wp2
    go_ret
    exact ⟨rfl, hb⟩
  · have he : al.isEmpty = false := by cases al with | nil => exact absurd rfl ha | cons _ _ => rfl
    have hd : ((al.length : Int) == 0) = false := by have : al.length ≠ 0 := fun e => ha (List.eq_nil_of_length_eq_zero e); simp; omega
    have hd' : ¬ (al.length : Int) = 0 := by simpa using hd
    rw [he] at hg'
    cases hr : rightFrom 0 al
    · rw [hr] at hR
      clear hg' he hkeep
      go_enter Try.func14, Try.ntmps14
      go_wp2_with (go_at_call 24; refine hR.mono ?_; rintro e w1 ⟨rfl, hb1⟩)
      go_ret
      exact ⟨rfl, bt hb hb1⟩
    · rw [hr] at hR hg'
      have ht : 1099511627776 < t := by have := hg'.out; simp at this; omega
      clear hg' he
      go_enter Try.func14, Try.ntmps14
      go_wp2_with (go_at_call 24; refine hR.mono ?_; rintro e w1 ⟨rfl, hb1⟩; obtain ⟨q0, q1, q2, q3, q4⟩ := hkeep.out _ hb1)
      go_ret
      exact ⟨rfl, bt hb hb1⟩
theorem gives_parts {x : Pn} (h : givesB x = true) : x.al ≠ [] ∧ rightFrom 0 x.al = true ∧ x.e ≤ 1099511627776 := by
  unfold givesB someB at h
  simp only [Bool.and_eq_true, Bool.not_eq_true', decide_eq_true_eq, List.isEmpty_eq_false_iff] at h
  exact ⟨h.1.1, h.1.2, h.2⟩
set_option maxHeartbeats 4000000 in
theorem rightR6_pl (h0 : ¬ k = 0) (h5 : ¬ 5 < k) (hk3 : ¬ k = 3) (hk5 : ¬ k = 5) (w : World) (h : PnAt w ⟨k, s, t, .slice a1 al.length c1, .slice a2 pl.length c2, al, pl⟩) (hw : PnWf ⟨k, s, t, .slice a1 al.length c1, .slice a2 pl.length c2, al, pl⟩) (hg : givesB ⟨k, s, t, .slice a1 al.length c1, .slice a2 pl.length c2, al, pl⟩ = true) (hpl : pl ≠ []) :
    Calls Try.prog 14 #[.agg #[.int .u8 k, .int .u64 s, .int .u64 t, .slice a1 al.length c1, .slice a2 pl.length c2]] w fun e w' => e = .returned (.bool false) ∧ Below w.heap.size w w' := by
  have hb : Below w.heap.size w (w.alloc (.cells #[.int .u8 k, .int .u64 s, .int .u64 t, .slice a1 al.length c1, .slice a2 pl.length c2] 26)) := ba (Below.refl _ _) _
  have hR := rightRCL_any _ (h.1.below hb) hw.al
  have hkeep : Hid (∀ X, Below (w.alloc (.cells #[.int .u8 k, .int .u64 s, .int .u64 t, .slice a1 al.length c1, .slice a2 pl.length c2] 26)).heap.size (w.alloc (.cells #[.int .u8 k, .int .u64 s, .int .u64 t, .slice a1 al.length c1, .slice a2 pl.length c2] 26)) X → X.cell? ⟨w.heap.size, 0, none⟩ = some (.int .u8 k) ∧ X.cell? ⟨w.heap.size, 1, none⟩ = some (.int .u64 s) ∧ X.cell? ⟨w.heap.size, 2, none⟩ = some (.int .u64 t) ∧ X.cell? ⟨w.heap.size, 3, none⟩ = some (.slice a1 al.length c1) ∧ X.cell? ⟨w.heap.size, 4, none⟩ = some (.slice a2 pl.length c2)) := fun X hX => by
    have q1 := (hX.block w.heap.size (by simp)).trans (al_at rfl)
    exact ⟨(cells_of_block q1).1 0, (cells_of_block q1).1 1, (cells_of_block q1).1 2, (cells_of_block q1).1 3, (cells_of_block q1).1 4⟩
  have hl1 := h.1.len
  have hl2 := h.2.len
  obtain ⟨he, hr, ht⟩ := gives_parts hg
  simp only at hR he hr ht
  have hd : ((al.length : Int) == 0) = false := by have : al.length ≠ 0 := fun e => he (List.eq_nil_of_length_eq_zero e); simp; omega
  have hd' : ¬ (al.length : Int) = 0 := by simpa using hd
  have ht' : ¬ 1099511627776 < t := by omega
  rw [hr] at hR
  clear hg h hw
  have hp1 : 0 < pl.length := by cases pl with | nil => exact absurd rfl hpl | cons _ _ => simp
  clear hpl
  generalize pl.length = n at *
  have hp2 : decide (0 < n) = true := decide_eq_true hp1
  have hp0 : (0 : Int) < (n : Int) := by omega
  have hk3b : (k != 3) = true := bne_iff_ne.2 hk3
  have hk5b : (k != 5) = true := bne_iff_ne.2 hk5
  clear hk3 hk5
  go_enter Try.func14, Try.ntmps14
  go_wp2_with (go_at_call 24; refine hR.mono ?_; rintro e w1 ⟨rfl, hb1⟩; obtain ⟨q0, q1, q2, q3, q4⟩ := hkeep.out _ hb1)
  go_ret
  exact ⟨rfl, bt hb hb1⟩
set_option maxHeartbeats 4000000 in
theorem rightR6_1 (w : World) (h : PnAt w ⟨1, s, t, .slice a1 al.length c1, .slice a2 ([] : List Pd).length c2, al, []⟩) (hw : PnWf ⟨1, s, t, .slice a1 al.length c1, .slice a2 ([] : List Pd).length c2, al, []⟩) (hg : givesB ⟨1, s, t, .slice a1 al.length c1, .slice a2 ([] : List Pd).length c2, al, []⟩ = true) :
    Calls Try.prog 14 #[.agg #[.int .u8 1, .int .u64 s, .int .u64 t, .slice a1 al.length c1, .slice a2 0 c2]] w fun e w' => e = .returned (.bool (decide (s < t))) ∧ Below w.heap.size w w' := by
  have hb : Below w.heap.size w (w.alloc (.cells #[.int .u8 1, .int .u64 s, .int .u64 t, .slice a1 al.length c1, .slice a2 0 c2] 26)) := ba (Below.refl _ _) _
  have hR := rightRCL_any _ (h.1.below hb) hw.al
  have hkeep : Hid (∀ X, Below (w.alloc (.cells #[.int .u8 1, .int .u64 s, .int .u64 t, .slice a1 al.length c1, .slice a2 0 c2] 26)).heap.size (w.alloc (.cells #[.int .u8 1, .int .u64 s, .int .u64 t, .slice a1 al.length c1, .slice a2 0 c2] 26)) X → X.cell? ⟨w.heap.size, 0, none⟩ = some (.int .u8 1) ∧ X.cell? ⟨w.heap.size, 1, none⟩ = some (.int .u64 s) ∧ X.cell? ⟨w.heap.size, 2, none⟩ = some (.int .u64 t) ∧ X.cell? ⟨w.heap.size, 3, none⟩ = some (.slice a1 al.length c1) ∧ X.cell? ⟨w.heap.size, 4, none⟩ = some (.slice a2 0 c2)) := fun X hX => by
    have q1 := (hX.block w.heap.size (by simp)).trans (al_at rfl)
    exact ⟨(cells_of_block q1).1 0, (cells_of_block q1).1 1, (cells_of_block q1).1 2, (cells_of_block q1).1 3, (cells_of_block q1).1 4⟩
  have hl1 := h.1.len
  have hl2 := h.2.len
  obtain ⟨he, hr, ht⟩ := gives_parts hg
  simp only at hR he hr ht
  have hd : ((al.length : Int) == 0) = false := by have : al.length ≠ 0 := fun e => he (List.eq_nil_of_length_eq_zero e); simp; omega
  have hd' : ¬ (al.length : Int) = 0 := by simpa using hd
  have ht' : ¬ 1099511627776 < t := by omega
  rw [hr] at hR
  clear hg h hw
  by_cases hs : s < t
  · have hd2 : decide (s < t) = true := decide_eq_true hs
    go_enter Try.func14, Try.ntmps14
    go_wp2_with (go_at_call 24; refine hR.mono ?_; rintro e w1 ⟨rfl, hb1⟩; obtain ⟨q0, q1, q2, q3, q4⟩ := hkeep.out _ hb1)
    go_ret
    exact ⟨by simp [hd2], bt hb hb1⟩
  · have hd2 : decide (s < t) = false := decide_eq_false hs
    go_enter Try.func14, Try.ntmps14
    go_wp2_with (go_at_call 24; refine hR.mono ?_; rintro e w1 ⟨rfl, hb1⟩; obtain ⟨q0, q1, q2, q3, q4⟩ := hkeep.out _ hb1)
    go_ret
    exact ⟨by simp [hd2], bt hb hb1⟩
set_option maxHeartbeats 4000000 in
theorem rightR6_2 (w : World) (h : PnAt w ⟨2, s, t, .slice a1 al.length c1, .slice a2 ([] : List Pd).length c2, al, []⟩) (hw : PnWf ⟨2, s, t, .slice a1 al.length c1, .slice a2 ([] : List Pd).length c2, al, []⟩) (hg : givesB ⟨2, s, t, .slice a1 al.length c1, .slice a2 ([] : List Pd).length c2, al, []⟩ = true) :
    Calls Try.prog 14 #[.agg #[.int .u8 2, .int .u64 s, .int .u64 t, .slice a1 al.length c1, .slice a2 0 c2]] w fun e w' => e = .returned (.bool (s == 0)) ∧ Below w.heap.size w w' := by
  have hb : Below w.heap.size w (w.alloc (.cells #[.int .u8 2, .int .u64 s, .int .u64 t, .slice a1 al.length c1, .slice a2 0 c2] 26)) := ba (Below.refl _ _) _
  have hR := rightRCL_any _ (h.1.below hb) hw.al
  have hkeep : Hid (∀ X, Below (w.alloc (.cells #[.int .u8 2, .int .u64 s, .int .u64 t, .slice a1 al.length c1, .slice a2 0 c2] 26)).heap.size (w.alloc (.cells #[.int .u8 2, .int .u64 s, .int .u64 t, .slice a1 al.length c1, .slice a2 0 c2] 26)) X → X.cell? ⟨w.heap.size, 0, none⟩ = some (.int .u8 2) ∧ X.cell? ⟨w.heap.size, 1, none⟩ = some (.int .u64 s) ∧ X.cell? ⟨w.heap.size, 2, none⟩ = some (.int .u64 t) ∧ X.cell? ⟨w.heap.size, 3, none⟩ = some (.slice a1 al.length c1) ∧ X.cell? ⟨w.heap.size, 4, none⟩ = some (.slice a2 0 c2)) := fun X hX => by
    have q1 := (hX.block w.heap.size (by simp)).trans (al_at rfl)
    exact ⟨(cells_of_block q1).1 0, (cells_of_block q1).1 1, (cells_of_block q1).1 2, (cells_of_block q1).1 3, (cells_of_block q1).1 4⟩
  have hl1 := h.1.len
  have hl2 := h.2.len
  obtain ⟨he, hr, ht⟩ := gives_parts hg
  simp only at hR he hr ht
  have hd : ((al.length : Int) == 0) = false := by have : al.length ≠ 0 := fun e => he (List.eq_nil_of_length_eq_zero e); simp; omega
  have hd' : ¬ (al.length : Int) = 0 := by simpa using hd
  have ht' : ¬ 1099511627776 < t := by omega
  rw [hr] at hR
  clear hg h hw
  by_cases hs : s = 0
  · subst hs
    go_enter Try.func14, Try.ntmps14
    go_wp2_with (go_at_call 24; refine hR.mono ?_; rintro e w1 ⟨rfl, hb1⟩; obtain ⟨q0, q1, q2, q3, q4⟩ := hkeep.out _ hb1)
    go_ret
    exact ⟨by simp, bt hb hb1⟩
  · have hd2 : (s == 0) = false := by simpa using hs
    go_enter Try.func14, Try.ntmps14
    go_wp2_with (go_at_call 24; refine hR.mono ?_; rintro e w1 ⟨rfl, hb1⟩; obtain ⟨q0, q1, q2, q3, q4⟩ := hkeep.out _ hb1)
    go_ret
    exact ⟨by simp [hd2], bt hb hb1⟩
set_option maxHeartbeats 4000000 in
theorem rightR6_4 (w : World) (h : PnAt w ⟨4, s, t, .slice a1 al.length c1, .slice a2 ([] : List Pd).length c2, al, []⟩) (hw : PnWf ⟨4, s, t, .slice a1 al.length c1, .slice a2 ([] : List Pd).length c2, al, []⟩) (hg : givesB ⟨4, s, t, .slice a1 al.length c1, .slice a2 ([] : List Pd).length c2, al, []⟩ = true) :
    Calls Try.prog 14 #[.agg #[.int .u8 4, .int .u64 s, .int .u64 t, .slice a1 al.length c1, .slice a2 0 c2]] w fun e w' => e = .returned (.bool (s == 0 && t == 0)) ∧ Below w.heap.size w w' := by
  have hb : Below w.heap.size w (w.alloc (.cells #[.int .u8 4, .int .u64 s, .int .u64 t, .slice a1 al.length c1, .slice a2 0 c2] 26)) := ba (Below.refl _ _) _
  have hR := rightRCL_any _ (h.1.below hb) hw.al
  have hkeep : Hid (∀ X, Below (w.alloc (.cells #[.int .u8 4, .int .u64 s, .int .u64 t, .slice a1 al.length c1, .slice a2 0 c2] 26)).heap.size (w.alloc (.cells #[.int .u8 4, .int .u64 s, .int .u64 t, .slice a1 al.length c1, .slice a2 0 c2] 26)) X → X.cell? ⟨w.heap.size, 0, none⟩ = some (.int .u8 4) ∧ X.cell? ⟨w.heap.size, 1, none⟩ = some (.int .u64 s) ∧ X.cell? ⟨w.heap.size, 2, none⟩ = some (.int .u64 t) ∧ X.cell? ⟨w.heap.size, 3, none⟩ = some (.slice a1 al.length c1) ∧ X.cell? ⟨w.heap.size, 4, none⟩ = some (.slice a2 0 c2)) := fun X hX => by
    have q1 := (hX.block w.heap.size (by simp)).trans (al_at rfl)
    exact ⟨(cells_of_block q1).1 0, (cells_of_block q1).1 1, (cells_of_block q1).1 2, (cells_of_block q1).1 3, (cells_of_block q1).1 4⟩
  have hl1 := h.1.len
  have hl2 := h.2.len
  obtain ⟨he, hr, ht⟩ := gives_parts hg
  simp only at hR he hr ht
  have hd : ((al.length : Int) == 0) = false := by have : al.length ≠ 0 := fun e => he (List.eq_nil_of_length_eq_zero e); simp; omega
  have hd' : ¬ (al.length : Int) = 0 := by simpa using hd
  have ht' : ¬ 1099511627776 < t := by omega
  rw [hr] at hR
  clear hg h hw
  by_cases hs : s = 0
  · subst hs
    by_cases ht2 : t = 0
    · subst ht2
      go_enter Try.func14, Try.ntmps14
      go_wp2_with (go_at_call 24; refine hR.mono ?_; rintro e w1 ⟨rfl, hb1⟩; obtain ⟨q0, q1, q2, q3, q4⟩ := hkeep.out _ hb1)
      go_ret
      exact ⟨by simp, bt hb hb1⟩
    · have hd3 : (t == 0) = false := by simpa using ht2
      go_enter Try.func14, Try.ntmps14
      go_wp2_with (go_at_call 24; refine hR.mono ?_; rintro e w1 ⟨rfl, hb1⟩; obtain ⟨q0, q1, q2, q3, q4⟩ := hkeep.out _ hb1)
      go_ret
      exact ⟨by simp [hd3], bt hb hb1⟩
  · have hd2 : (s == 0) = false := by simpa using hs
    go_enter Try.func14, Try.ntmps14
    go_wp2_with (go_at_call 24; refine hR.mono ?_; rintro e w1 ⟨rfl, hb1⟩; obtain ⟨q0, q1, q2, q3, q4⟩ := hkeep.out _ hb1)
    go_ret
    exact ⟨by simp [hd2], bt hb hb1⟩
end
end Go.Proofs.Ytmfnfnegnfpkiaa
