
/- Coins held against each other; the law's own example (little). -/
import Derived.Test.YtjhjgncnadhbhaaS
set_option linter.unusedSimpArgs false
set_option linter.unusedVariables false
set_option maxRecDepth 20000
namespace Go.Proofs.Ytjhjgncnadhbhaa
open Go.RowKit

set_option maxRecDepth 20000 in
theorem eq_coin (d x0 x1 x2 x3 d' y0 y1 y2 y3 : Int) (w : World) : (Op.equalIn 10000 66 (.agg #[.int .u8 d, .int .u64 x0, .int .u64 x1, .int .u64 x2, .int .u64 x3]) (.agg #[.int .u8 d', .int .u64 y0, .int .u64 y1, .int .u64 y2, .int .u64 y3])).run Try.prog w = .ok (d == d' && eq4 x0 x1 x2 x3 y0 y1 y2 y3) w := by
  show (Op.equalIn (9999 + 1) 66 _ _).run Try.prog w = _
  rw [run_equalIn_struct w 9999 66 _ _ (by kernel_rfl) (by kernel_rfl)]
  have e : (Try.prog.fieldsOf 66).toList.map (fun f => (f.name, f.type, f.offset)) = [("Denom", 5, 0), ("N", 64, 1)] := by kernel_rfl
  have p1 : ∀ (a b c d e : Value) w, (part 5 #[a, b, c, d, e] 0).run Try.prog w = .ok a w := fun _ _ _ _ _ _ => rfl
  have p2 : ∀ (a b c d e : Value) w, (part 64 #[a, b, c, d, e] 1).run Try.prog w = .ok (.agg #[b, c, d, e]) w := fun _ _ _ _ _ _ => rfl
  have q1 : ∀ (a b : Int) w, (Op.equalIn 9999 5 (.int .u8 a) (.int .u8 b)).run Try.prog w = .ok (a == b) w := fun a b w => run_equalIn_int w 9998 5 .u8 .u8 a b Try.underlying5
  have q2 : ∀ (x0 x1 x2 x3 y0 y1 y2 y3 : Int) w, (Op.equalIn 9999 64 (.agg #[.int .u64 x0, .int .u64 x1, .int .u64 x2, .int .u64 x3]) (.agg #[.int .u64 y0, .int .u64 y1, .int .u64 y2, .int .u64 y3])).run Try.prog w = .ok (eq4 x0 x1 x2 x3 y0 y1 y2 y3) w := fun x0 x1 x2 x3 y0 y1 y2 y3 w => eq_numD 9997 x0 x1 x2 x3 y0 y1 y2 y3 w
  generalize (Try.prog.fieldsOf 66).toList = fs at e
  obtain ⟨f1, f2, rfl⟩ : ∃ f1 f2, fs = [f1, f2] := by
    cases fs with
    | nil => simp at e
    | cons f1 fs => cases fs with
      | nil => simp at e
      | cons f2 fs => cases fs with
        | nil => exact ⟨_, _, rfl⟩
        | cons f3 fs => simp at e
  simp only [List.map_cons, List.map_nil, List.cons.injEq, Prod.mk.injEq, and_true] at e
  obtain ⟨⟨n1, t1, o1⟩, n2, t2, o2⟩ := e
  have hn1 : f1.name ≠ "_" := by rw [n1]; decide
  have hn2 : f2.name ≠ "_" := by rw [n2]; decide
  simp only [Op.eqFields, if_pos hn1, if_pos hn2, t1, t2, o1, o2, Sem.run_bind, Sem.run_ite, p1, p2, q1, q2, Result.andThen_ok]
  cases (d == d') <;> cases (eq4 x0 x1 x2 x3 y0 y1 y2 y3) <;> rfl

theorem lim_amt {l : List Cn} (h : ∀ x ∈ l, LimC x) (d : Int) : LimC (amt l d) := by
  unfold amt
  cases e : l.find? (fun x => x.d == d) with
  | none => exact lim_zero
  | some x => exact h x (List.mem_of_find?_eq_some e)

theorem oneL_nil {x : Cn} (h : LimC x) (e : vl x = 0) : oneL x = [] := by
  unfold oneL; rw [if_pos]; rw [eq4_zero h, decide_eq_true_iff]; exact e
theorem oneL_small {x : Cn} {d : Nat} {n : Int} (h : LimC x) (hd : x.d = d) (hn : 0 < n ∧ n < 18446744073709551616) (e : vl x = n) : oneL x = [⟨d, n, 0, 0, 0⟩] := by
  unfold LimC at h
  have hl : Lim n 0 0 0 := by unfold Lim; omega
  obtain ⟨h1, h2, h3, h4⟩ := val_inj h hl (by rw [val_of]; exact e)
  unfold oneL; rw [if_neg]
  · cases x; simp at *; simp [*]
  · rw [eq4_zero h, decide_eq_true_iff]; unfold vl at e; omega

def littleA : List Cn := [⟨0, 5, 0, 0, 0⟩, ⟨2, 1, 0, 0, 0⟩]
def littleB : List Cn := [⟨0, 7, 0, 0, 0⟩]

theorem little_list {z : Nat → Cn} (hz : ∀ d, d < 8 → LimC (z d) ∧ (z d).d = d ∧ vl (z d) = restI (vl (amt littleA d)) (vl (amt littleB d))) : lst z 8 = [⟨2, 1, 0, 0, 0⟩] := by
  have h0 : oneL (z 0) = [] := oneL_nil (hz 0 (by omega)).1 ((hz 0 (by omega)).2.2.trans (by decide))
  have h1 : oneL (z 1) = [] := oneL_nil (hz 1 (by omega)).1 ((hz 1 (by omega)).2.2.trans (by decide))
  have h2 : oneL (z 2) = [⟨2, 1, 0, 0, 0⟩] := oneL_small (hz 2 (by omega)).1 (hz 2 (by omega)).2.1 (by omega) ((hz 2 (by omega)).2.2.trans (by decide))
  have h3 : oneL (z 3) = [] := oneL_nil (hz 3 (by omega)).1 ((hz 3 (by omega)).2.2.trans (by decide))
  have h4 : oneL (z 4) = [] := oneL_nil (hz 4 (by omega)).1 ((hz 4 (by omega)).2.2.trans (by decide))
  have h5 : oneL (z 5) = [] := oneL_nil (hz 5 (by omega)).1 ((hz 5 (by omega)).2.2.trans (by decide))
  have h6 : oneL (z 6) = [] := oneL_nil (hz 6 (by omega)).1 ((hz 6 (by omega)).2.2.trans (by decide))
  have h7 : oneL (z 7) = [] := oneL_nil (hz 7 (by omega)).1 ((hz 7 (by omega)).2.2.trans (by decide))
  simp [lst, h0, h1, h2, h3, h4, h5, h6, h7]

theorem block_coins {W : World} {B cap : Nat} {c : Array Value} {t : TypeId} {l : List Cn} (hb : W.heap[B]? = some (.cells c t (0, 0))) (hc : c.toList = cellsL l) (hne : l ≠ []) (hl : l.length ≤ 1048576) : IsCoins W (.slice (some ⟨B, 0, none⟩) l.length cap) l := by
  refine .inr ⟨B, 0, cap, rfl, hne, hl, (Array.getElem?_eq_some_iff.1 hb).1, fun i x hi => ?_⟩
  obtain ⟨cc, _⟩ := cells_of_block hb
  have key : ∀ j, c[0 + i * 5 + j]? = (cellsL l)[i * 5 + j]? := by intro j; rw [← hc]; simp
  have hcl := cellsL_at hi
  refine ⟨?_, ?_, ?_, ?_, ?_⟩
  · have := key 0; simp only [Nat.add_zero] at this; rw [cc, this]; simpa using hcl 0 (by omega)
  · rw [cc, key 1]; simpa using hcl 1 (by omega)
  · rw [cc, key 2]; simpa using hcl 2 (by omega)
  · rw [cc, key 3]; simpa using hcl 3 (by omega)
  · rw [cc, key 4]; simpa using hcl 4 (by omega)

theorem little_cells {W : World} {g : Nat} {cur : Array Value} (cc : ∀ o, W.cell? ⟨g, o, none⟩ = cur[o]?) (h4 : cur.toList.take ([(⟨2, 1, 0, 0, 0⟩ : Cn)].length * 5) = cellsL [⟨2, 1, 0, 0, 0⟩]) :
    W.cell? ⟨g, 0, none⟩ = some (.int .u8 2) ∧ W.cell? ⟨g, 1, none⟩ = some (.int .u64 1) ∧ W.cell? ⟨g, 2, none⟩ = some (.int .u64 0) ∧ W.cell? ⟨g, 3, none⟩ = some (.int .u64 0) ∧ W.cell? ⟨g, 4, none⟩ = some (.int .u64 0) := by
  have key : ∀ j, j < 5 → W.cell? ⟨g, j, none⟩ = (cellsL [⟨2, 1, 0, 0, 0⟩])[j]? := by
    intro j hj
    rw [← h4, List.getElem?_take_of_lt (by simpa using hj), cc]; simp
  exact ⟨key 0 (by omega), key 1 (by omega), key 2 (by omega), key 3 (by omega), key 4 (by omega)⟩

end Go.Proofs.Ytjhjgncnadhbhaa
