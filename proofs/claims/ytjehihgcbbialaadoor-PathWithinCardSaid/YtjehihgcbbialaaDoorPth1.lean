/- path.Name; strings.HasPrefix; slices.IndexFunc, ContainsFunc over names. -/
import Derived.Test.YtjehihgcbbialaaDoorPth0
import Derived.Test.YtjehihgcbbialaaDoorBase
import Derived.Test.YtjehihgcbbialaaDoorSk
namespace Go.Proofs.YtjehihgcbbialaaDoor
open Go.RowKit
set_option linter.unusedVariables false

set_option maxRecDepth 100000 in
set_option maxHeartbeats 3200000 in
theorem name_any (s : ByteArray) (w : World) : Calls Tryd.prog 10 #[.string s] w fun e w' => e = .returned (.bool (nameB (sb s))) ∧ Same w w' := by
  obtain ⟨r, hr⟩ : ∃ r, nameB (sb s) = r := ⟨_, rfl⟩
  have HR := Lib.hid hr
  rw [hr]
  clear hr
  have hsz : (sb s).length = s.size := sb_length s
  by_cases h1 : (s.size : Int) < 1
  · have HF : Hid (r = false) := Lib.hid (by rw [← HR.out]; unfold nameB; rw [decide_eq_false (by omega)]; rfl)
    clear hsz
    go_enter Tryd.func10, Tryd.ntmps10
    go_wp2
    go_ret
    exact ⟨by rw [HF.out]; rfl, Keeps.refl _ _⟩
  by_cases h2 : 8 < (s.size : Int)
  · have HF : Hid (r = false) := Lib.hid (by rw [← HR.out]; unfold nameB; rw [decide_eq_false (p := (sb s).length ≤ 8) (by omega)]; simp)
    clear hsz
    go_enter Tryd.func10, Tryd.ntmps10
    go_wp2
    go_ret
    exact ⟨by rw [HF.out]; rfl, Keeps.refl _ _⟩
  obtain ⟨n, hn⟩ : ∃ n, s.size = n := ⟨_, rfl⟩
  rw [hn] at h1 h2 hsz
  have HN := Lib.hid hn
  have HSZ := Lib.hid hsz
  have cv := Lib.run_convert_string_bytes (P := Tryd.prog) w 9 35 5 s Tryd.underlying9 Tryd.underlying35 Tryd.underlying5
  have HK : Hid (Same w (Lib.bytesWorld w 5 s)) := Lib.hid (bytesWorld_keeps (Keeps.refl (fun _ => False) w) 5 s)
  have HC : Hid (∀ j (h : j < n), (Lib.bytesWorld w 5 s).cell? ⟨w.heap.size, j, none⟩ = some (.int .u8 (((sb s)[j]'(by rw [HSZ.out]; exact h)).toNat : Int))) := Lib.hid (fun j h => by
    rw [Lib.bytesWorld_cell w 5 s j (by rw [HN.out]; exact h)]
    have : s.data.toList.getD j 0 = (sb s)[j]'(by rw [HSZ.out]; exact h) := by unfold sb; rw [List.getD_eq_getElem?_getD, List.getElem?_eq_getElem]; rfl
    rw [this])
  obtain ⟨w1, hw1⟩ : ∃ w1, Lib.bytesWorld w 5 s = w1 := ⟨_, rfl⟩
  rw [hw1] at HK HC cv
  rw [hn] at cv
  clear hw1 hsz hn
  have hsn := HN.out
  go_enter Tryd.func10, Tryd.ntmps10
  go_wp2
  go_loopw [16] (fun i wr => wr = w1 ∧ ∃ j : Nat, j ≤ n ∧ i = .int .i64 j ∧ Hid (∀ q (h : q < (sb s).length), q < j → okB (sb s)[q] = true)) (fun i _ => n - (intOf i).toNat)
  case atStart => exact ⟨rfl, 0, by omega, rfl, Lib.hid (fun q h hq => by omega)⟩
  case round =>
    obtain ⟨rfl, j, hj, rfl, HQ⟩ := hrel
    by_cases hlt : j < n
    · have hc := HC.out j hlt
      have HO : Hid (okB ((sb s)[j]'(by rw [HSZ.out]; exact hlt)) = true → ∀ q (h : q < (sb s).length), q < j + 1 → okB (sb s)[q] = true) := Lib.hid (fun h q h1 h2 => by
        by_cases e : q = j
        · subst e; exact h
        · exact HQ.out q h1 (by omega))
      have HNO : Hid (okB ((sb s)[j]'(by rw [HSZ.out]; exact hlt)) = false → r = false) := Lib.hid (fun h => by
        rw [← HR.out]; unfold nameB
        rw [Bool.and_eq_false_iff]; right
        rw [List.all_eq_false]
        exact ⟨_, List.getElem_mem (by rw [HSZ.out]; exact hlt), by rw [h]; simp⟩)
      generalize (sb s)[j]'(by rw [HSZ.out]; exact hlt) = b at hc HO HNO
      obtain ⟨c, hcc⟩ : ∃ c : Int, (b.toNat : Int) = c := ⟨_, rfl⟩
      rw [hcc] at hc
      have HCC := Lib.hid hcc
      have hjn : (j : Int) < (n : Int) := by omega
      clear hcc
      by_cases b1 : c < 33
      · have HF := Lib.hid (HNO.out (by unfold okB; rw [decide_eq_false (p := 33 ≤ b.toNat) (by have := HCC.out; omega)]; rfl))
        go_wp2
        go_ret
        exact ⟨by rw [HF.out]; rfl, HK.out⟩
      by_cases b2 : 126 < c
      · have HF := Lib.hid (HNO.out (by unfold okB; rw [decide_eq_false (p := b.toNat ≤ 126) (by have := HCC.out; omega)]; simp))
        go_wp2
        go_ret
        exact ⟨by rw [HF.out]; rfl, HK.out⟩
      by_cases b3 : c = 47
      · have HF := Lib.hid (HNO.out (by unfold okB; rw [decide_eq_false (p := b.toNat ≠ 47) (by have := HCC.out; omega)]; simp))
        subst b3
        go_wp2
        go_ret
        exact ⟨by rw [HF.out]; rfl, HK.out⟩
      · have HG := Lib.hid (HO.out (by unfold okB; rw [decide_eq_true (p := 33 ≤ b.toNat) (by have := HCC.out; omega), decide_eq_true (p := b.toNat ≤ 126) (by have := HCC.out; omega), decide_eq_true (p := b.toNat ≠ 47) (by have := HCC.out; omega)]; rfl))
        have b4 : (c == 47) = false := by simpa using b3
        clear b3
        go_wp2
        go_roundw
        case rel => exact ⟨by trivial, j + 1, by omega, by go_num, HG⟩
        case measure => simp [intOf]; omega
    · obtain rfl : j = n := by omega
      have HF : Hid (r = true) := Lib.hid (by
        rw [← HR.out]; unfold nameB
        rw [decide_eq_true (by have := HSZ.out; omega), decide_eq_true (by have := HSZ.out; omega), Bool.true_and, Bool.true_and, List.all_eq_true]
        intro b hb
        obtain ⟨q, hq, rfl⟩ := List.getElem_of_mem hb
        exact HQ.out q hq (by have := HSZ.out; omega))
      have hjn : ¬ (j : Int) < (j : Int) := by omega
      go_wp2
      go_ret
      exact ⟨by rw [HF.out]; rfl, HK.out⟩

set_option maxRecDepth 100000 in
set_option maxHeartbeats 800000 in
theorem names1_any (s : ByteArray) (w : World) : Calls Tryd.prog 29 #[.string s] w fun e w' => e = .returned (.bool (!nameB (sb s))) ∧ Same w w' := by
  have HN := Lib.hid (name_any s)
  generalize nameB (sb s) = b at HN ⊢
  go_enter Tryd.func29, Tryd.ntmps29
  go_wp2_with fail
  ((with_reducible refine (HN.out _).mono ?_); rintro e w1 ⟨rfl, hk1⟩)
  have HS1 := Lib.hid hk1
  clear hk1
  go_wp2
  go_ret
  exact ⟨rfl, HS1.out⟩

/-- The first that is no name. -/
def firstBad : List ByteArray → Nat → Int
  | [], _ => -1
  | x :: r, j => if nameB (sb x) then firstBad r (j + 1) else (j : Int)
theorem firstBad_neg : ∀ (xs : List ByteArray) (j : Nat), decide (0 ≤ firstBad xs j) = !(xs.all fun x => nameB (sb x))
  | [], j => rfl
  | x :: r, j => by
    rw [firstBad, List.all_cons]
    cases h : nameB (sb x)
    · simp
    · simp only [if_true, Bool.true_and]; exact firstBad_neg r (j + 1)

set_option maxRecDepth 100000 in
set_option maxHeartbeats 3200000 in
theorem indexFunc_any (ao : Option Addr) (n c : Nat) (xs : List ByteArray) (w : World) (h : Strs w (.slice ao n c) xs) (hn : xs.length = n) (hl : n ≤ 1000000) :
    Calls Tryd.prog 33 #[.slice ao n c, .func (.func 29) #[] #[]] w fun e w' => e = .returned (.int .i64 (firstBad xs 0)) ∧ Same w w' := by
  have HX := Lib.hid h
  have HN := Lib.hid hn
  obtain ⟨r, hr⟩ : ∃ r, firstBad xs 0 = r := ⟨_, rfl⟩
  have HR := Lib.hid hr
  rw [hr]
  clear h hn hr
  go_enter Tryd.func33, Tryd.ntmps33
  go_wp2
  go_loopw [8] (fun i wr => ∃ j : Nat, j ≤ n ∧ i = .int .i64 j ∧ Hid (Same w wr) ∧ Hid (firstBad (xs.drop j) j = r)) (fun i _ => n - (intOf i).toNat)
  case atStart => exact ⟨0, by omega, rfl, Lib.hid (Keeps.refl _ _), Lib.hid (by rw [List.drop_zero]; exact HR.out)⟩
  case round =>
    obtain ⟨j, hj, rfl, HS, HB⟩ := hrel
    by_cases hlt : j < n
    · have hjl : j < xs.length := by rw [HN.out]; exact hlt
      obtain ⟨a, rfl, hc⟩ := (HX.out.same HS.out).at hjl
      have HD : Hid (xs.drop j = xs[j] :: xs.drop (j + 1)) := Lib.hid (List.drop_eq_getElem_cons hjl)
      generalize xs[j] = x at hc HD
      have hjn : (j : Int) < (n : Int) := by omega
      clear hjl
      by_cases hb : nameB (sb x) = true
      · have HB2 : Hid (firstBad (xs.drop (j + 1)) (j + 1) = r) := Lib.hid (by have := HB.out; rw [HD.out, firstBad, if_pos hb] at this; exact this)
        go_wp2_with (first | (go_at_call 29; with_reducible refine (names1_any _ _).mono ?_; rintro e w1 ⟨rfl, hk1⟩; have HS1 := Lib.hid (HS.out.trans hk1 (fun _ _ e => e)); clear hk1; rw [hb]))
        go_roundw
        case rel => exact ⟨j + 1, by omega, by go_num, HS1, HB2⟩
        case measure => simp [intOf]; omega
      · have hb2 : nameB (sb x) = false := by simpa using hb
        have HB2 : Hid (r = (j : Int)) := Lib.hid (by have := HB.out; rw [HD.out, firstBad, if_neg hb] at this; exact this.symm)
        go_wp2_with (first | (go_at_call 29; with_reducible refine (names1_any _ _).mono ?_; rintro e w1 ⟨rfl, hk1⟩; have HS1 := Lib.hid (HS.out.trans hk1 (fun _ _ e => e)); clear hk1; rw [hb2]))
        go_ret
        exact ⟨by rw [HB2.out]; rfl, HS1.out⟩
    · obtain rfl : j = n := by omega
      have HB2 : Hid (r = -1) := Lib.hid (by have := HB.out; rw [List.drop_of_length_le (by rw [HN.out]; exact Nat.le_refl _), firstBad] at this; exact this.symm)
      have hjn : ¬ (j : Int) < (j : Int) := by omega
      go_wp2
      go_ret
      exact ⟨by rw [HB2.out]; rfl, HS.out⟩

set_option maxRecDepth 100000 in
set_option maxHeartbeats 800000 in
theorem containsFunc_any (ao : Option Addr) (n c : Nat) (xs : List ByteArray) (w : World) (h : Strs w (.slice ao n c) xs) (hn : xs.length = n) (hl : n ≤ 1000000) :
    Calls Tryd.prog 28 #[.slice ao n c, .func (.func 29) #[] #[]] w fun e w' => e = .returned (.bool (!(xs.all fun x => nameB (sb x)))) ∧ Same w w' := by
  have HI := Lib.hid (fun w h => indexFunc_any ao n c xs w h hn hl)
  have HX := Lib.hid h
  rw [← firstBad_neg xs 0]
  clear h hn
  generalize firstBad xs 0 = r at HI ⊢
  obtain ⟨rb, hrb⟩ : ∃ rb, decide (0 ≤ r) = rb := ⟨_, rfl⟩
  have HRB := Lib.hid hrb
  rw [hrb]
  clear hrb
  go_enter Tryd.func28, Tryd.ntmps28
  go_wp2_with fail
  ((with_reducible refine (HI.out _ HX.out).mono ?_); rintro e w1 ⟨rfl, hk1⟩)
  have HS1 := Lib.hid hk1
  clear hk1
  by_cases h0 : 0 ≤ r
  · have HT : Hid (rb = true) := Lib.hid (by rw [← HRB.out, decide_eq_true h0])
    go_wp2
    go_ret
    exact ⟨by rw [HT.out]; first | rfl | simp [h0], HS1.out⟩
  · have HT : Hid (rb = false) := Lib.hid (by rw [← HRB.out, decide_eq_false h0])
    go_wp2
    go_ret
    exact ⟨by rw [HT.out]; first | rfl | simp [h0], HS1.out⟩
end Go.Proofs.YtjehihgcbbialaaDoor
