/- The document's own Name, byte by byte. -/
import Derived.Test.YtjehihgcbbialaaDoorPth10
namespace Go.Proofs.YtjehihgcbbialaaDoor
open Go.RowKit
set_option linter.unusedVariables false

set_option maxRecDepth 100000 in
set_option maxHeartbeats 3200000 in
theorem refName_any (s : ByteArray) (w : World) : Calls Tryd.prog 11 #[.string s] w fun e w' => e = .returned (.bool (nameB (sb s))) ∧ Same w w' := by
  obtain ⟨r, hr⟩ : ∃ r, nameB (sb s) = r := ⟨_, rfl⟩
  have HR := Lib.hid hr
  rw [hr]
  clear hr
  have hsz : (sb s).length = s.size := sb_length s
  by_cases h1 : (s.size : Int) < 1
  · have HF : Hid (r = false) := Lib.hid (by rw [← HR.out]; unfold nameB; rw [decide_eq_false (by omega)]; rfl)
    clear hsz
    go_enter Tryd.func11, Tryd.ntmps11
    go_wp2
    go_ret
    exact ⟨by rw [HF.out]; rfl, Keeps.refl _ _⟩
  by_cases h2 : 8 < (s.size : Int)
  · have HF : Hid (r = false) := Lib.hid (by rw [← HR.out]; unfold nameB; rw [decide_eq_false (p := (sb s).length ≤ 8) (by omega)]; simp)
    clear hsz
    go_enter Tryd.func11, Tryd.ntmps11
    go_wp2
    go_ret
    exact ⟨by rw [HF.out]; rfl, Keeps.refl _ _⟩
  have HSZ := Lib.hid hsz
  clear hsz
  go_enter Tryd.func11, Tryd.ntmps11
  go_wp2
  go_loopw [3] (fun i wr => wr = w ∧ ∃ j : Nat, j ≤ s.size ∧ i = .int .i64 j ∧ Hid (∀ q (h : q < (sb s).length), q < j → okB (sb s)[q] = true)) (fun i _ => s.size - (intOf i).toNat)
  case atStart => exact ⟨rfl, 0, by omega, rfl, Lib.hid (fun q h hq => by omega)⟩
  case round =>
    obtain ⟨rfl, j, hj, rfl, HQ⟩ := hrel
    by_cases hlt : j < s.size
    · have hjn : (j : Int) < (s.size : Int) := by omega
      have hl2 : j < (sb s).length := by rw [HSZ.out]; exact hlt
      have HB : Hid (s[j]'hlt = (sb s)[j]'hl2) := Lib.hid rfl
      have HO : Hid (okB ((sb s)[j]'hl2) = true → ∀ q (h : q < (sb s).length), q < j + 1 → okB (sb s)[q] = true) := Lib.hid (fun h q h1 h2 => by
        by_cases e : q = j
        · subst e; exact h
        · exact HQ.out q h1 (by omega))
      have HNO : Hid (okB ((sb s)[j]'hl2) = false → r = false) := Lib.hid (fun h => by
        rw [← HR.out]; unfold nameB
        rw [Bool.and_eq_false_iff]; right
        rw [List.all_eq_false]
        exact ⟨_, List.getElem_mem hl2, by rw [h]; simp⟩)
      rw [← HB.out] at HO HNO
      by_cases b1 : (((s[j]'hlt).toNat : Nat) : Int) < 33
      · have HF := Lib.hid (HNO.out (by unfold okB; rw [decide_eq_false (p := 33 ≤ (s[j]'hlt).toNat) (by omega)]; rfl))
        go_wp2
        go_ret
        exact ⟨by rw [HF.out]; rfl, Keeps.refl _ _⟩
      by_cases b2 : 126 < (((s[j]'hlt).toNat : Nat) : Int)
      · have HF := Lib.hid (HNO.out (by unfold okB; rw [decide_eq_false (p := (s[j]'hlt).toNat ≤ 126) (by omega)]; simp))
        go_wp2
        go_ret
        exact ⟨by rw [HF.out]; rfl, Keeps.refl _ _⟩
      by_cases b3 : (((s[j]'hlt).toNat : Nat) : Int) = 47
      · have HF := Lib.hid (HNO.out (by unfold okB; rw [decide_eq_false (p := (s[j]'hlt).toNat ≠ 47) (by omega)]; simp))
        have b4 : ((((s[j]'hlt).toNat : Nat) : Int) == 47) = true := by simpa using b3
        clear b3
        go_wp2
        go_ret
        exact ⟨by rw [HF.out]; rfl, Keeps.refl _ _⟩
      · have HG := Lib.hid (HO.out (by unfold okB; rw [decide_eq_true (p := 33 ≤ (s[j]'hlt).toNat) (by omega), decide_eq_true (p := (s[j]'hlt).toNat ≤ 126) (by omega), decide_eq_true (p := (s[j]'hlt).toNat ≠ 47) (by omega)]; rfl))
        have b4 : ((((s[j]'hlt).toNat : Nat) : Int) == 47) = false := by simpa using b3
        clear b3
        go_wp2
        go_roundw
        case rel => exact ⟨by trivial, j + 1, by omega, by go_num, HG⟩
        case measure => simp [intOf]; omega
    · obtain rfl : j = s.size := by omega
      have HF : Hid (r = true) := Lib.hid (by
        rw [← HR.out]; unfold nameB
        rw [decide_eq_true (by have := HSZ.out; omega), decide_eq_true (by have := HSZ.out; omega), Bool.true_and, Bool.true_and, List.all_eq_true]
        intro b hb
        obtain ⟨q, hq, rfl⟩ := List.getElem_of_mem hb
        exact HQ.out q hq (by have := HSZ.out; omega))
      have hjn : ¬ (s.size : Int) < (s.size : Int) := by omega
      go_wp2
      go_ret
      exact ⟨by rw [HF.out]; rfl, Keeps.refl _ _⟩
end Go.Proofs.YtjehihgcbbialaaDoor
