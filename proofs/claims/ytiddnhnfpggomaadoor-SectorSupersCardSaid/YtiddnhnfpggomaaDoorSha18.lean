/- Maths for the document's own Sum: its words' table and its sums' order. -/
import Derived.Test.YtiddnhnfpggomaaDoorSha17
namespace Go.Proofs.YtiddnhnfpggomaaDoor
open Go.RowKit
set_option linter.unusedVariables false

theorem sched_take (ch : List UInt8) (k : Nat) : ∀ d, (sched ch (k + d)).take (16 + k) = sched ch k
  | 0 => List.take_of_length_le (by rw [Nat.add_zero, sched_length]; omega)
  | d + 1 => by
    show (sched ch (k + d) ++ [nextW (sched ch (k + d))]).take (16 + k) = _
    rw [List.take_append_of_le_length (by rw [sched_length]; omega), sched_take ch k d]
theorem sched_getD (ch : List UInt8) (k d j : Nat) (h : j < 16 + k) : (sched ch (k + d)).getD j 0 = (sched ch k).getD j 0 := by
  rw [← sched_take ch k d, List.getD_eq_getElem?_getD, List.getD_eq_getElem?_getD, List.getElem?_take_of_lt h]
theorem sched_low (ch : List UInt8) (t : Nat) (h : t < 16) : (sched ch 48).getD t 0 = word4 (ch.getD (4 * t) 0) (ch.getD (4 * t + 1) 0) (ch.getD (4 * t + 2) 0) (ch.getD (4 * t + 3) 0) := by
  have := sched_getD ch 0 48 t (by omega)
  rw [Nat.zero_add] at this
  rw [this]
  show (words16 ch).getD t 0 = _
  rw [← words16_get ch t h, List.getD_eq_getElem?_getD, List.getElem?_eq_getElem (by rw [words16_length]; exact h)]
  rfl
theorem sched_high (ch : List UInt8) (k : Nat) (h : k < 48) : (sched ch 48).getD (16 + k) 0 = (((sched ch 48).getD k 0 + sig0 ((sched ch 48).getD (k + 1) 0)) + (sched ch 48).getD (k + 9) 0) + sig1 ((sched ch 48).getD (k + 14) 0) := by
  obtain ⟨d, hd⟩ : ∃ d, 48 = k + 1 + d := ⟨47 - k, by omega⟩
  obtain ⟨d', hd'⟩ : ∃ d', 48 = k + d' := ⟨48 - k, by omega⟩
  have e0 : (sched ch 48).getD (16 + k) 0 = (sched ch (k + 1)).getD (16 + k) 0 := by rw [hd]; exact sched_getD ch (k + 1) d _ (by omega)
  have e (j : Nat) (hj : j < 16 + k) : (sched ch 48).getD j 0 = (sched ch k).getD j 0 := by rw [hd']; exact sched_getD ch k d' _ hj
  rw [e0, e k (by omega), e (k + 1) (by omega), e (k + 9) (by omega), e (k + 14) (by omega)]
  have hl := sched_length ch k
  have e1 : (sched ch (k + 1)).getD (16 + k) 0 = nextW (sched ch k) := by
    show (sched ch k ++ [nextW (sched ch k)]).getD (16 + k) 0 = _
    rw [List.getD_eq_getElem?_getD, List.getElem?_append_right (by omega), show 16 + k - (sched ch k).length = 0 from by omega]
    rfl
  rw [e1]
  unfold nextW
  rw [hl, show 16 + k - 16 = k from by omega, show 16 + k - 7 = k + 9 from by omega, show 16 + k - 15 = k + 1 from by omega, show 16 + k - 2 = k + 14 from by omega]
  rw [BitVec.add_assoc ((sched ch k).getD k 0), BitVec.add_comm ((sched ch k).getD (k + 9) 0), ← BitVec.add_assoc]
/-- The words up to here. -/
def wAt (ch : List UInt8) (t : Nat) : List Wd := upTo (sched ch 48) t 64
theorem wAt_length (ch : List UInt8) (t : Nat) (h : t ≤ 64) : (wAt ch t).length = 64 := upTo_length _ _ _ (by rw [sched_length]; omega) h
theorem wAt_zero (ch : List UInt8) : wAt ch 0 = List.replicate 64 0 := rfl
theorem wAt_all (ch : List UInt8) : wAt ch 64 = sched ch 48 := by
  unfold wAt upTo
  rw [List.take_of_length_le (by rw [sched_length]; omega)]
  simp
theorem wAt_succ (ch : List UInt8) (t : Nat) (h : t < 64) : (wAt ch t).set t ((sched ch 48).getD t 0) = wAt ch (t + 1) := by
  have hl : t < (sched ch 48).length := by rw [sched_length]; omega
  have := upTo_succ (sched ch 48) t 64 hl h
  have e : (sched ch 48).getD t 0 = (sched ch 48)[t] := by
    rw [List.getD_eq_getElem?_getD, List.getElem?_eq_getElem hl]; rfl
  rw [e]
  exact this
theorem wAt_get (ch : List UInt8) (t j : Nat) (h : t ≤ 64) (hj : j < t) : (wAt ch t)[j]? = some ((sched ch 48).getD j 0) := by
  have hl : j < (sched ch 48).length := by rw [sched_length]; omega
  have := upTo_get (sched ch 48) t 64 j (by rw [sched_length]; omega) h hj
  unfold wAt
  rw [this, List.getD_eq_getElem?_getD, List.getElem?_eq_getElem hl]; rfl
theorem wAt_cell {w : World} {B : Nat} {T : TypeId} {ch : List UInt8} {t j : Nat} (hw : Whole w B T (u32s (wAt ch t))) (h : t ≤ 64) (hj : j < t) : w.cell? ⟨B, j, none⟩ = some (.int .u32 (wn ((sched ch 48).getD j 0))) :=
  hw.cell (by rw [u32s, List.getElem?_map, wAt_get ch t j h hj]; rfl)
theorem wAt_any {w : World} {B : Nat} {T : TypeId} {ch : List UInt8} {t : Nat} (hw : Whole w B T (u32s (wAt ch t))) (h : t < 64) : ∃ x, w.cell? ⟨B, t, none⟩ = some (.int .u32 (wn x)) :=
  ⟨_, hw.cell (u32s_get _ _ (by rw [wAt_length _ _ (by omega)]; exact h))⟩

/-- The ways in which the document adds. -/
theorem step_ref (s : St) (k x : Wd) : (⟨((((s.h + bs1 s.e) + chW s.e s.f s.g) + k) + x + bs0 s.a) + majW s.a s.b s.c, s.a, s.b, s.c, s.d + ((((s.h + bs1 s.e) + chW s.e s.f s.g) + k) + x), s.e, s.f, s.g⟩ : St) = step s k x := by
  have e : (((s.h + bs1 s.e) + chW s.e s.f s.g) + k) + x = pW s k x := by unfold pW; ac_rfl
  unfold step qW
  rw [e]
  congr 1
  ac_rfl
theorem list_cell {w : World} {B : Nat} {T : TypeId} {s : St} (h : Whole w B T (u32s s.list)) (i : Nat) (hi : i < 8) : w.cell? ⟨B, i, none⟩ = some (.int .u32 (wn (s.list.getD i 0))) := by
  refine h.cell ?_
  rcases (by omega : i = 0 ∨ i = 1 ∨ i = 2 ∨ i = 3 ∨ i = 4 ∨ i = 5 ∨ i = 6 ∨ i = 7) with rfl | rfl | rfl | rfl | rfl | rfl | rfl | rfl <;> rfl
theorem chunk_getD (p : List UInt8) (k j : Nat) (hj : j < 64) (h : 64 * k + 64 ≤ p.length) : ((p.drop (64 * k)).take 64).getD j 0 = p.getD (64 * k + j) 0 := by
  rw [List.getD_eq_getElem?_getD, List.getD_eq_getElem?_getD, List.getElem?_take_of_lt hj, List.getElem?_drop]
theorem Tryd.size8 (s : St) : (Tryd.prog.info? 80).map (·.size) = some (u32s s.list).toArray.size := by
  have e2 : (Tryd.prog.info? 80).map (·.size) = some 8 := by kernel_rfl
  rw [e2]; rfl

end Go.Proofs.YtiddnhnfpggomaaDoor
