
/- store: own bytes; which of two keys stands ahead. -/
import Derived.Test.YtafcianpajheiaaN2
import Derived.Laws.MakeOwn
import Derived.Laws.Externs
import Derived.Lib.Bytealg
import Derived.Lib.BytesEntry
set_option linter.unusedSimpArgs false
set_option linter.unusedVariables false
set_option maxRecDepth 20000
namespace Go.Proofs.Ytafcianpajheiaa
open Go.RowKit

theorem u8_one : (Try.prog.info? 5).map (·.size) = some 1 := by kernel_rfl
theorem Src.parts {W : World} {u : Value} {q : List Int} (h : Src W u q) : ∃ sp cap, u = .slice sp q.length cap ∧ (0 < (encB q).length → ∃ ad, sp = some ad ∧ ∀ j v, (encB q)[j]? = some v → W.cell? (ad.add j) = some v) := by
  rcases h with ⟨rfl, rfl⟩ | ⟨ad, cap, rfl, hc⟩
  · exact ⟨none, 0, rfl, by simp [encB]⟩
  · refine ⟨some ad, cap, rfl, fun _ => ⟨ad, rfl, fun j x hj => ?_⟩⟩
    simp only [encB, List.getElem?_map] at hj
    obtain ⟨y, hy, rfl⟩ := Option.map_eq_some_iff.1 hj
    exact hc j y hy
/-- Bytes of one's own, in a block of their own. -/
def Own (W : World) (g : Nat) (v : Value) (q : List Int) : Prop := v = .slice (some ⟨g, 0, none⟩) q.length q.length ∧ W.heap[g]? = some (.cells (encB q).toArray 5 (0, 0))
theorem Own.lt {W : World} {g : Nat} {v : Value} {q : List Int} (h : Own W g v q) : g < W.heap.size := (Array.getElem?_eq_some_iff.1 h.2).1
theorem Own.src {W : World} {g : Nat} {v : Value} {q : List Int} (h : Own W g v q) : Src W v q := by
  obtain ⟨rfl, hb⟩ := h
  refine .inr ⟨⟨g, 0, none⟩, _, rfl, fun i x hi => ?_⟩
  rw [add_cell, (cells_of_block hb).1]
  simp [encB, hi]
theorem Own.kept {W W' : World} {g : Nat} {v : Value} {q : List Int} (h : Own W g v q) (e : W'.heap[g]? = W.heap[g]?) : Own W' g v q := ⟨h.1, e.trans h.2⟩

set_option maxHeartbeats 1000000 in
theorem own_any {W : World} {u : Value} {q : List Int} (hl : q.length ≤ 1048576) (hu : Src W u q) :
    Calls Try.prog 54 #[u] W fun e w' => ∃ v, e = .returned v ∧ Own w' W.heap.size v q ∧ Below W.heap.size W w' := by
  obtain ⟨i0, hi, hz0, hz1, hz2⟩ := info_parts u8_info
  obtain ⟨sp, cap, rfl, hc⟩ := hu.parts
  have hmk := run_makeSlice (P := Try.prog) W 77 5 i0 _ Try.underlying77 hi hz0 .i64 .i64 (q.length : Int) (q.length : Int) (by omega) (Int.le_refl _) (by rw [hz1]; simp; omega) (by rw [hz2]; omega) (by omega)
  simp only [Int.toNat_natCast, hz1, Nat.mul_one] at hmk
  have hsz := size_madeCells (Value.int .u8 0).cells q.length
  generalize madeCells (Value.int .u8 0).cells q.length = Z at hmk hsz
  have hZ : Z.toList.length = q.length := by simpa using hsz
  have hce : ((encB q).length : Int) = (q.length : Int) := by simp [encB]
  obtain ⟨C, hC⟩ : ∃ C, C = encB q := ⟨_, rfl⟩
  rw [← hC] at hc hce
  have hCl : C.length = q.length := by omega
  have h1 : ∀ v ∈ C, v.oneCell' = true := by rw [hC]; simp [encB, Value.oneCell']
  have hC' : Hid _ := hC
  clear hC
  go_enter Try.func54, Try.ntmps54
  go_wp2_with (refine wpList_copy_splice rfl _ _ 77 77 rfl 5 Try.underlying77 u8_one _ _ _ _ _ _ rfl rfl W.heap.size 0 Z.toList 5 (by rw [Array.toArray_toList]; exact al_at rfl) C (by rw [hCl]; exact (Nat.min_self _).symm) (fun hp => ⟨rfl, by obtain ⟨ad, e, hcc⟩ := hc hp; exact ⟨ad, e, fun j v hj => (World.grownBy_alloc W _ none).cell (hcc j v hj) (by simp)⟩⟩) (by omega) h1 W.heap.size W (ba (Below.refl _ _) _) (Nat.le_refl _) ?_; intro w2 HG2 hB2)
  go_ret
  refine ⟨_, rfl, ⟨rfl, ?_⟩, hB2⟩
  rw [HG2.out, ← hC'.out]
  simp only [splice, List.take_zero, List.nil_append, Nat.zero_add]
  rw [List.drop_of_length_le (by omega), List.append_nil]

/-- Which of two keys stands ahead: -1 the first, 1 the second, 0: they are one. -/
def cmpB : List Int → List Int → Int
  | [], [] => 0
  | [], _ :: _ => -1
  | _ :: _, [] => 1
  | a :: p, b :: q => if a < b then -1 else if b < a then 1 else cmpB p q
def Byte (q : List Int) : Prop := ∀ x ∈ q, 0 ≤ x ∧ x ≤ 255
theorem cmp_bytes : ∀ (p q : List Int), Byte p → Byte q → Lib.compareBytes (Lib.bytesOf p) (Lib.bytesOf q) = cmpB p q
  | [], [], _, _ => by simp [Lib.bytesOf, Lib.compareBytes, cmpB]
  | [], b :: q, _, _ => by simp [Lib.bytesOf, Lib.compareBytes, cmpB]
  | a :: p, [], _, _ => by simp [Lib.bytesOf, Lib.compareBytes, cmpB]
  | a :: p, b :: q, hp, hq => by
    have ha := hp a (by simp)
    have hb := hq b (by simp)
    have ih := cmp_bytes p q (fun x hx => hp x (by simp [hx])) (fun x hx => hq x (by simp [hx]))
    have key : ∀ x y : Int, 0 ≤ x ∧ x ≤ 255 → 0 ≤ y ∧ y ≤ 255 → (x.toNat.toUInt8 < y.toNat.toUInt8 ↔ x < y) := by
      intro x y hx hy
      rw [UInt8.lt_iff_toNat_lt]
      simp only [Nat.toUInt8, UInt8.toNat_ofNat']
      omega
    simp only [Lib.bytesOf, List.map_cons, Lib.compareBytes, cmpB] at ih ⊢
    rw [ih]
    by_cases h1 : a < b
    · rw [if_pos ((key a b ha hb).2 h1), if_pos h1]
    · rw [if_neg (fun h => h1 ((key a b ha hb).1 h)), if_neg h1]
      by_cases h2 : b < a
      · rw [if_pos ((key b a hb ha).2 h2), if_pos h2]
      · rw [if_neg (fun h => h2 ((key b a hb ha).1 h)), if_neg h2]
theorem bytesOf_run {W : World} {u : Value} {q : List Int} (h : Src W u q) : (Extern.Bytes.bytesOf u).run Try.prog W = .ok ⟨(Lib.bytesOf q).toArray⟩ W := by
  rcases h with ⟨rfl, rfl⟩ | ⟨ad, cap, rfl, hc⟩
  · simp [Extern.Bytes.bytesOf, Lib.bytesOf]; rfl
  · have := Lib.run_loadBytesX (P := Try.prog) (w := W) q ad .empty (fun j x hj => hc j x hj)
    simp only [Extern.Bytes.bytesOf]
    rw [this]
    simp [ByteArray.empty, ByteArray.emptyWithCapacity]
    rfl
theorem compare_ex {W : World} {u v : Value} {p q : List Int} (hu : Src W u p) (hv : Src W v q) (hp : Byte p) (hq : Byte q) : (callFunc 80 #[u, v]).run Try.prog W = .ok (.value (.int .i64 (cmpB p q))) W := by
  rw [run_callFunc_extern Try.func80 (by kernel_rfl) (by kernel_rfl) (by kernel_rfl) (e := Extern.BytealgCompare.compare) (by kernel_rfl)]
  have e : (Extern.BytealgCompare.compare #[u, v]).run Try.prog W = .ok (.int .i64 (cmpB p q)) W := by
    change Sem.run Try.prog (do pure (goInt (Extern.BytealgCompare.cmp (← Extern.Bytes.bytesOf u) (← Extern.Bytes.bytesOf v)))) W = _
    simp only [Sem.run_bind, bytesOf_run hu, bytesOf_run hv, Result.andThen_ok, Sem.run_pure, Lib.cmp_eq, cmp_bytes p q hp hq]
    rfl
  rw [e]; rfl
set_option maxHeartbeats 1000000 in
theorem bcompare_any {W : World} {u v : Value} {p q : List Int} (hu : Src W u p) (hv : Src W v q) (hp : Byte p) (hq : Byte q) :
    Calls Try.prog 73 #[u, v] W fun e w' => e = .returned (.int .i64 (cmpB p q)) ∧ w' = W := by
  have hx := compare_ex hu hv hp hq
  go_enter Try.func73, Try.ntmps73
  go_wp2
  go_ret
  exact ⟨rfl, rfl⟩
end Go.Proofs.Ytafcianpajheiaa
