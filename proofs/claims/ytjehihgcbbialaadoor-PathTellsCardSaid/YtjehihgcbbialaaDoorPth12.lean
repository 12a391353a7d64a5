/- The document's own Join. -/
import Derived.Test.YtjehihgcbbialaaDoorPth11
namespace Go.Proofs.YtjehihgcbbialaaDoor
open Go.RowKit
set_option linter.unusedVariables false

def slashed (l : List (List UInt8)) : List UInt8 := (l.map (([47] : List UInt8) ++ ·)).flatten
theorem slashed_join {l : List (List UInt8)} (h : l ≠ []) : slashed l = joinP l := by
  cases l with
  | nil => exact absurd rfl h
  | cons x r => rw [joinP, Lib.join_cons, Lib.joinTail, slashed]; simp
theorem slashed_take (l : List (List UInt8)) (j : Nat) (h : j < l.length) : slashed (l.take (j + 1)) = slashed (l.take j) ++ (47 :: l[j]) := by
  unfold slashed
  rw [List.take_add_one, List.getElem?_eq_getElem h, List.map_append, List.flatten_append]
  congr 1
  exact List.append_nil _
theorem slashed_len (l : List (List UInt8)) (j : Nat) : (slashed (l.take j)).length ≤ (slashed l).length := by
  have : slashed l = slashed (l.take j) ++ slashed (l.drop j) := by unfold slashed; rw [← List.flatten_append, ← List.map_append, List.take_append_drop]
  rw [this, List.length_append]; omega
theorem bsA_size (x : List UInt8) : (bsA x).size = x.length := by rw [← sb_length, sb_bsA]
theorem bsA_append (x y : List UInt8) : bsA x ++ bsA y = bsA (x ++ y) := by
  apply ByteArray.ext
  rw [ByteArray.data_append]
  simp [bsA]

set_option maxRecDepth 100000 in
set_option maxHeartbeats 3200000 in
theorem refJoin_any (ao : Option Addr) (n c : Nat) (l : List (List UInt8)) (w : World) (h : Strs w (.slice ao n c) (l.map bsA)) (hn : l.length = n) (hl : n ≤ 1000000) (hlen : (joinP l).length ≤ 1000000) :
    Calls Tryd.prog 9 #[.slice ao n c] w fun e w' => e = .returned (.string (bsA (joinP l))) ∧ Same w w' := by
  have HX := Lib.hid h
  have HN := Lib.hid hn
  have HJ : Hid (l ≠ [] → slashed l = joinP l) := Lib.hid slashed_join
  obtain ⟨r, hr⟩ : ∃ r, joinP l = r := ⟨_, rfl⟩
  have HR := Lib.hid hr
  rw [hr] at HJ hlen ⊢
  have HLEN := Lib.hid hlen
  clear h hr hlen
  cases n with
  | zero =>
    have HF : Hid (bsA r = { data := #[47] }) := Lib.hid (by rw [← HR.out, List.length_eq_zero_iff.1 HN.out]; rfl)
    clear hn
    go_enter Tryd.func9, Tryd.ntmps9
    go_wp2
    go_ret
    exact ⟨by rw [HF.out]; rfl, Keeps.refl _ _⟩
  | succ m =>
    have hm0 : (((m + 1 : Nat) : Int) == 0) = false := by simp; omega
    obtain ⟨k, hk⟩ : ∃ k, m + 1 = k := ⟨_, rfl⟩
    have hk0 : l ≠ [] := fun e => by rw [e] at hn; simp at hn
    have HJ2 := Lib.hid (HJ.out hk0)
    rw [hk] at hm0 HX HN hl ⊢
    clear hn hk hk0
    go_enter Tryd.func9, Tryd.ntmps9
    go_wp2
    go_loopw [3, 4] (fun sv i wr => wr = w ∧ ∃ j : Nat, j ≤ k ∧ i = .int .i64 j ∧ sv = .string (bsA (slashed (l.take j)))) (fun _ i _ => k - (intOf i).toNat)
    case atStart => exact ⟨rfl, 0, by omega, rfl, rfl⟩
    case round =>
      obtain ⟨rfl, j, hj, rfl, rfl⟩ := hrel
      by_cases hlt : j < k
      · have hjl : j < (l.map bsA).length := by rw [List.length_map, HN.out]; exact hlt
        have hjl2 : j < l.length := by rw [HN.out]; exact hlt
        have HT : Hid (bsA (slashed (l.take j)) ++ (({ data := #[47] } : ByteArray) ++ bsA (l[j]'hjl2)) = bsA (slashed (l.take (j + 1)))) := Lib.hid (by
          rw [slashed_take l j hjl2, show ({ data := #[47] } : ByteArray) = bsA [47] from rfl, bsA_append, bsA_append]; rfl)
        obtain ⟨a, rfl, hc⟩ := HX.out.at hjl
        rw [List.getElem_map] at hc
        obtain ⟨x, hx⟩ : ∃ x, bsA (l[j]'hjl2) = x := ⟨_, rfl⟩
        obtain ⟨y, hy⟩ : ∃ y, bsA (slashed (l.take j)) = y := ⟨_, rfl⟩
        have hx2 : ¬ 9223372036854775807 < y.size + (1 + x.size) := by
          have h1 := slashed_len l (j + 1)
          rw [slashed_take l j hjl2, HJ2.out, List.length_append, List.length_cons] at h1
          have h2 := HLEN.out
          rw [← hx, ← hy, bsA_size, bsA_size]
          omega
        have hx1 : ¬ 9223372036854775807 < 1 + x.size := by omega
        rw [hx] at hc HT
        rw [hy] at HT
        simp only [hy]
        have hjn : (j : Int) < (k : Int) := by omega
        clear hjl hjl2 hx hy
        go_wp2
        go_roundw
        case rel => exact ⟨by trivial, j + 1, by omega, by go_num, by rw [← HT.out]⟩
        case measure => simp [intOf]; omega
      · obtain rfl : j = k := by omega
        have HF : Hid (slashed (l.take j) = r) := Lib.hid (by rw [← HJ2.out, List.take_of_length_le (by have := HN.out; omega)])
        have hjn : ¬ (j : Int) < (j : Int) := by omega
        go_wp2
        go_ret
        exact ⟨by rw [HF.out]; rfl, Keeps.refl _ _⟩
end Go.Proofs.YtjehihgcbbialaaDoor
