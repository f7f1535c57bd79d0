
/- store: bytes that begin so; Keys. -/
import Derived.Test.YtafcianpajheiaaO12
import Derived.Lib.Bytes
set_option linter.unusedSimpArgs false
set_option linter.unusedVariables false
set_option maxRecDepth 20000
namespace Go.Proofs.Ytafcianpajheiaa
open Go.RowKit

theorem bytesOf_inj : ∀ (p q : List Int), Byte p → Byte q → Lib.bytesOf p = Lib.bytesOf q → p = q
  | [], [], _, _, _ => rfl
  | [], _ :: _, _, _, h => by simp [Lib.bytesOf] at h
  | _ :: _, [], _, _, h => by simp [Lib.bytesOf] at h
  | a :: p, b :: q, hp, hq, h => by
    have ha := hp a (by simp)
    have hb := hq b (by simp)
    simp only [Lib.bytesOf, List.map_cons, List.cons.injEq] at h
    have ih := bytesOf_inj p q (fun x hx => hp x (by simp [hx])) (fun x hx => hq x (by simp [hx])) h.2
    have h2 := congrArg UInt8.toNat h.1
    simp only [UInt8.toNat_ofNat'] at h2
    rw [ih, show a = b by omega]
theorem conv_src {W : World} {u : Value} {p : List Int} (h : Src W u p) (hp : Byte p) : ∃ s : ByteArray, (convert 77 9 u).run Try.prog W = .ok (.string s) W ∧ s.toList = Lib.bytesOf p := by
  rcases h with ⟨rfl, rfl⟩ | ⟨ad, cap, rfl, hc⟩
  · refine ⟨_, run_convert_bytes_nil (P := Try.prog) W 77 5 Try.underlying77 Try.underlying5 0 0 9 Try.underlying9, ?_⟩
    rw [Lib.toList_data]; rfl
  · have h1 := run_convert_bytes_back (P := Try.prog) W 77 9 5 ad cap (Lib.bytesOf p) Try.underlying77 Try.underlying5 Try.underlying9 (fun j hj => by
      have hj' : j < p.length := by simpa [Lib.bytesOf] using hj
      have hx := hp p[j] (List.getElem_mem hj')
      rw [hc j p[j] (List.getElem?_eq_getElem hj')]
      simp only [Lib.bytesOf, List.getElem_map, UInt8.toNat_ofNat']
      congr 2
      omega)
    rw [show (Lib.bytesOf p).length = p.length by simp [Lib.bytesOf]] at h1
    exact ⟨_, h1, by rw [Lib.toList_data]⟩
set_option maxHeartbeats 1000000 in
theorem bequal_any {W : World} {u v : Value} {p q : List Int} (hu : Src W u p) (hv : Src W v q) (hp : Byte p) (hq : Byte q) :
    Calls Try.prog 79 #[u, v] W fun e w' => e = .returned (.bool (decide (p = q))) ∧ w' = W := by
  obtain ⟨s1, c1, e1⟩ := conv_src hu hp
  obtain ⟨s2, c2, e2⟩ := conv_src hv hq
  have he : (s1.toList == s2.toList) = decide (p = q) := by
    rw [e1, e2]
    by_cases h : p = q
    · subst h; simp
    · rw [decide_eq_false h]; simp; exact fun e => h (bytesOf_inj p q hp hq e)
  have he' : Hid _ := he
  clear e1 e2 he
  go_enter Try.func79, Try.ntmps79
  go_wp2
  go_ret
  exact ⟨congrArg (fun b => Ending.returned (.bool b)) he'.out, rfl⟩
/-- Does a key begin so? -/
def begs (k p : List Int) : Bool := decide (p.length ≤ k.length) && decide (k.take p.length = p)
set_option maxHeartbeats 2000000 in
theorem hasPrefix_any {W : World} {g : Nat} {kv u : Value} {k p : List Int} (hk : Own W g kv k) (hu : Src W u p) (hkb : Byte k) (hpb : Byte p) (hkl : k.length ≤ 1048576) (hpl : p.length ≤ 1048576) :
    Calls Try.prog 68 #[kv, u] W fun e w' => e = .returned (.bool (begs k p)) ∧ w' = W := by
  obtain rfl := hk.1
  obtain ⟨su, cu, rfl, -⟩ := hu.parts
  have hkl' : (k.length : Int) ≤ 1048576 := by omega
  have hpl' : (p.length : Int) ≤ 1048576 := by omega
  by_cases hle : p.length ≤ k.length
  · have hle' : (p.length : Int) ≤ (k.length : Int) := by omega
    have hs : Src W (.slice (some ⟨g, 0, none⟩) p.length k.length) (k.take p.length) := by
      refine .inr ⟨⟨g, 0, none⟩, k.length, by rw [List.length_take]; congr 1; omega, fun i x hi => ?_⟩
      rw [List.getElem?_take] at hi
      split at hi
      · rw [add_cell, (cells_of_block hk.2).1]; simp [encB, hi]
      · simp at hi
    have hE := bequal_any hs hu (fun x hx => hkb x (List.mem_of_mem_take hx)) hpb
    have hb : Hid (begs k p = decide (k.take p.length = p)) := by unfold Hid; simp [begs, hle]
    generalize decide (k.take p.length = p) = D at *
    go_enter Try.func68, Try.ntmps68
    go_wp2_with (go_at_call 79; refine hE.mono ?_; rintro e w1 ⟨rfl, hw⟩; obtain rfl := hw.symm)
    go_ret
    exact ⟨congrArg (fun b => Ending.returned (.bool b)) hb.out.symm, rfl⟩
  · have hle' : ¬ (p.length : Int) ≤ (k.length : Int) := by omega
    have hb : Hid (begs k p = false) := by unfold Hid; simp [begs, hle]
    go_enter Try.func68, Try.ntmps68
    go_wp2
    go_ret
    exact ⟨congrArg (fun b => Ending.returned (.bool b)) hb.out.symm, rfl⟩

/-- A list of keys, each in a block of its own. -/
structure KeysAt (W : World) (base : Nat) (v : Value) (ks : List (Value × List Int)) : Prop where
  row : W.ownsRow base 77 1 v ks.length (ks.map (·.1))
  own : ∀ x ∈ ks, ∃ g, base ≤ g ∧ Own W g x.1 x.2
theorem KeysAt.below {W W' : World} {base : Nat} {v : Value} {ks : List (Value × List Int)} (h : KeysAt W base v ks) (hb : Below W.heap.size W W') : KeysAt W' base v ks :=
  ⟨none_row h.row (grown_none hb), fun x hx => by obtain ⟨g, h1, h2⟩ := h.own x hx; exact ⟨g, h1, h2.kept (hb.block g h2.lt)⟩⟩
theorem bs_info : (Try.prog.info? 77).map (fun i => (i.zero, i.size, i.bytes)) = some (some (.slice none 0 0), 1, 24) := by kernel_rfl
/-- The keys that begin so, from a place on, up to the first that doesn't. -/
def runS (r : List Rec) (p : List Int) : List (List Int) := (r.takeWhile fun x => begs x.k p).map (·.k)
theorem runS_stop {r : List Rec} {p : List Int} {m : Nat} (h1 : ∀ x ∈ r.take m, begs x.k p = true) (h2 : m = r.length ∨ ∃ h : m < r.length, begs r[m].k p = false) : runS r p = (r.take m).map (·.k) := by
  unfold runS
  congr 1
  conv => lhs; rw [← List.take_append_drop m r]
  rw [List.takeWhile_append_of_pos h1]
  rcases h2 with h2 | ⟨h, h2⟩
  · rw [List.drop_of_length_le (by omega)]; simp
  · rw [List.drop_eq_getElem_cons h, List.takeWhile_cons_of_neg (by simp [h2])]; simp
set_option maxRecDepth 10000 in
set_option maxHeartbeats 8000000 in
theorem keys_any {W : World} {s base : Nat} {A : Nat → Prop} {vp vj vb u : Value} {r : List Rec} {j : List Was} {b : List Nat} {p : List Int} (h : StC W s base A vp vj vb r j b) (hs : Srt r) (hn : r.length ≤ 100000) (hu : Src W u p) (hpb : Byte p) (hpl : p.length ≤ 1048576) :
    Calls Try.prog 48 #[.pointer (some ⟨s, 0, none⟩), u] W fun e w' => ∃ v ks i f, e = .returned v ∧ KeysAt w' W.heap.size v ks ∧ FindS r p i f ∧ ks.map (·.2) = runS (r.drop i) p ∧ Below W.heap.size W w' := by
  obtain ⟨i0, hi0, hz0, hz1, hz2⟩ := bs_info |> info_parts
  have hF := find_any h hs (by omega) hu hpb
  obtain ⟨ap, cp, rfl⟩ := row_slice h.pairs
  have hcp : r.length ≤ cp := by
    rcases h.pairs.2 with ⟨e, e0⟩ | ⟨g, cap, cur, e, _, _, h3, _⟩
    · omega
    · simp at e; omega
  have hn' : (r.length : Int) ≤ 100000 := by omega
  go_enter Try.func48, Try.ntmps48
  go_wp2_with (first
    | (go_at_call 50; refine hF.mono ?_; rintro e w1 ⟨i, f, rfl, hfs, hb1⟩; have h1 := h.below hb1; have hA := all_any h1; have hu1 := hu.kept (grown_none hb1); have hil : (i : Int) ≤ (r.length : Int) := (by have := hfs.le; omega); have hic : (i : Int) ≤ (cp : Int) := (by omega); rcases Nat.lt_or_ge i r.length with hi | hi; obtain ⟨g, cap, ev, hgl, -, -, -, -⟩ := pair_at h1.pairs (List.getElem?_eq_getElem hi); simp at ev; obtain ⟨rfl, rfl⟩ := ev; have k1 : ¬ cp = i := (by omega))
    | (go_at_call 67; refine hA.mono ?_; rintro e w2 ⟨rfl, hw⟩; obtain rfl := hw.symm))
  · obtain ⟨n2, hn2⟩ : ∃ n2, r.length - i = n2 := ⟨_, rfl⟩
    have hdl : (r.drop i).length = n2 := by rw [List.length_drop]; exact hn2
    have hn2' : (n2 : Int) ≤ 100000 := by omega
    have hsz1 := hb1.size
    rw [hn2]
    clear hF hA
    go_loopw [5, 21] (fun lv iv X => ∃ (m : Nat) (ks : List (Value × List Int)), m ≤ n2 ∧ iv = .int .i64 (m : Int) ∧ KeysAt X W.heap.size lv ks ∧ Hid (ks.map (·.2) = ((r.drop i).take m).map (·.k)) ∧ Hid (∀ x ∈ (r.drop i).take m, begs x.k p = true) ∧ Below W.heap.size W X) (fun _ iv _ => n2 - (intOf iv).toNat)
    case atStart => exact ⟨0, [], by omega, rfl, ⟨World.ownsRow_nil _ _ _ _, by simp⟩, by unfold Hid; simp, by unfold Hid; simp, hb1⟩
    case round =>
      obtain ⟨m, ks, hm, rfl, hK, hkm, hall, hB⟩ := hrel
      have hsz := hB.size
      by_cases hlt : m < n2
      · have him : i + m < r.length := by omega
        have hX := h.below hB
        obtain ⟨g', cap', ev, hgl', -, c0, c1, -⟩ := pair_at hX.pairs (List.getElem?_eq_getElem him)
        simp at ev
        obtain ⟨rfl, rfl⟩ := ev
        have c0' : wr.cell? ⟨g, i * 2 + m * 2, none⟩ = some r[i + m].kv := by rw [← Nat.add_mul]; exact c0
        have c1' : wr.cell? ⟨g, i * 2 + m * 2 + 1, none⟩ = some r[i + m].vv := by rw [← Nat.add_mul]; exact c1
        obtain ⟨⟨⟨gk, -, hok⟩, hkb, hkl⟩, hvv⟩ := hX.recs r[i + m] (List.getElem_mem him)
        have hdm : (r.drop i)[m]'(by omega) = r[i + m] := List.getElem_drop
        have htk : Hid (((r.drop i).take (m + 1)) = (r.drop i).take m ++ [r[i + m]]) := by unfold Hid; rw [List.take_succ_eq_append_getElem (by omega), hdm]
        obtain ⟨vs, vc, evv, -⟩ := hvv.src.parts
        rw [evv] at c1'
        have ekv := hok.1
        rw [ekv] at c0' hok
        generalize hxx : r[i + m] = x at *
        obtain ⟨a0, cl0, rfl⟩ := row_slice hK.row
        have hBox : Below wr.heap.size wr (wr.alloc (.cells #[.slice (some ⟨gk, 0, none⟩) x.k.length x.k.length, .slice vs x.v.length vc] 112)) := ba (Below.refl _ _) _
        have hokB := hok.kept (hBox.block gk hok.lt)
        have hP := hasPrefix_any hokB (hu.kept (grown_none (bt hB hBox))) hkb hpb hkl hpl
        have hO := own_any hkl hokB.src
        have hlt' : (m : Int) < (n2 : Int) := by omega
        have hksl : ks.length ≤ 100000 := by have := congrArg List.length hkm.out; simp at this; omega
        cases hbg : begs x.k p with
        | true =>
          rw [hbg] at hP
          go_wp2_with (first
            | (go_at_call 68; refine hP.mono ?_; rintro e w3 ⟨rfl, hw⟩; obtain rfl := hw.symm)
            | (go_at_call 54; refine hO.mono ?_; rintro e w4 ⟨kv4, rfl, ho4, hb4⟩; have hB4 := bt hBox hb4; have hrow4 := none_row hK.row (grown_none hB4); have hz4 := hB4.size; obtain rfl := ho4.1)
            | (at_builtin; refine wpList_append_own_at _ rfl _ _ 100 rfl W.heap.size 77 i0 _ 1 24 Try.underlying100 hi0 hz0 hz1 hz2 rfl (by decide) _ ks.length (ks.map (·.1)) rfl (none_row hrow4 (World.grownBy_alloc w4 _ none)) ⟨w4.heap.size, 0, none⟩ 1 1 [.slice (some ⟨(wr.alloc (.cells #[.slice (some ⟨gk, 0, none⟩) x.k.length x.k.length, .slice vs x.v.length vc] 112)).heap.size, 0, none⟩) x.k.length x.k.length] rfl rfl (fun j u hj => by rw [add_cell, (cells_of_block (World.alloc_heap_new w4 _)).1]; simpa using hj) (by simp [Value.oneCell']) (by unfold maxLen; omega) (by omega) (by simp; omega) ?_; intro v5 w5 hown5 hgr5 _ hat5))
          all_goals go_roundw
          case rel =>
            have hg5 := World.grownBy_alloc w4 (.cells #[.slice (some ⟨wr.heap.size + 1, 0, none⟩) x.k.length x.k.length] 77) none
            have hkeep : ∀ (n : Nat) (v : Value) (q : List Int), Own w4 n v q → Own w5 n v q := fun n v q ho => ho.kept ((hgr5.block n (Nat.lt_of_lt_of_le ho.lt hg5.size) (not_row ((hg5.block n ho.lt (by simp)).trans ho.2) (by decide) (none_row hrow4 hg5))).trans (hg5.block n ho.lt (by simp)))
            refine ⟨m + 1, ks ++ [(_, x.k)], by omega, by go_num, ⟨by rw [List.length_append, List.map_append]; exact hown5, fun y hy => ?_⟩, ?_, ?_, ?_⟩
            · rcases List.mem_append.1 hy with hy | hy
              · obtain ⟨n, q1, q2⟩ := hK.own y hy
                exact ⟨n, q1, hkeep n _ _ (q2.kept (hB4.block n q2.lt))⟩
              · rw [List.mem_singleton] at hy
                subst hy
                exact ⟨_, Nat.le_trans hB.size (World.grownBy_alloc wr _ none).size, hkeep _ _ _ ho4⟩
            · unfold Hid; rw [htk.out, List.map_append, List.map_append, hkm.out]; rfl
            · intro y hy
              rw [htk.out] at hy
              rcases List.mem_append.1 hy with hy | hy
              · exact hall.out y hy
              · rw [List.mem_singleton] at hy; subst hy; exact hbg
            · exact ((bt hB hB4).grown (World.grownBy_alloc w4 _ none) (Nat.le_trans hB.size hB4.size) (by simp)).grown hgr5 (Nat.le_trans (Nat.le_trans hB.size hB4.size) hg5.size) (fun n hn => (hrow4.lt n hn).1)
          case measure => (simp [intOf]; omega)
        | false =>
          rw [hbg] at hP
          go_wp2_with (go_at_call 68; refine hP.mono ?_; rintro e w3 ⟨rfl, hw⟩; obtain rfl := hw.symm)
          go_ret
          refine ⟨_, ks, i, f, rfl, hK.below hBox, hfs, ?_, bt hB hBox⟩
          rw [hkm.out, runS_stop (m := m) hall.out (.inr ⟨by omega, by rw [hdm]; exact hbg⟩)]
      · obtain rfl : m = n2 := by omega
        obtain ⟨a0, cl0, rfl⟩ := row_slice hK.row
        go_wp2
        go_ret
        refine ⟨_, ks, i, f, rfl, hK, hfs, ?_, hB⟩
        rw [hkm.out, runS_stop (m := m) hall.out (.inl hdl.symm)]
  all_goals
    have hd0 : r.drop i = [] := List.drop_of_length_le hi
    apply wp_loop_rounds 1
    simp only [Code.rounds]
    go_wp2
    go_ret
    exact ⟨_, [], i, f, rfl, ⟨World.ownsRow_nil _ _ _ _, by simp⟩, hfs, by rw [hd0]; rfl, hb1⟩
end Go.Proofs.Ytafcianpajheiaa
