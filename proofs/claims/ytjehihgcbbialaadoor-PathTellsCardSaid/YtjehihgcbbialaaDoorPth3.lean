/- Lists of texts compared; path.join, Parent, Base. -/
import Derived.Test.YtjehihgcbbialaaDoorPth2
namespace Go.Proofs.YtjehihgcbbialaaDoor
open Go.RowKit
set_option linter.unusedVariables false

theorem Strs.take {w : World} {ao : Option Addr} {n c : Nat} {xs : List ByteArray} (h : Strs w (.slice ao n c) xs) (hn : xs.length = n) (k c' : Nat) (hk : k ≤ n) : Strs w (.slice ao k c') (xs.take k) := by
  rcases h with ⟨a, c0, h1, hc⟩ | ⟨c0, h1, h2⟩
  · simp only [Value.slice.injEq] at h1
    obtain ⟨rfl, _, _⟩ := h1
    refine .inl ⟨a, c', by rw [List.length_take, hn, Nat.min_eq_left hk], fun j s hj => hc j s ?_⟩
    rw [List.getElem?_take] at hj
    split at hj
    · exact hj
    · cases hj
  · subst h2
    have : k = 0 := by simp at hn; omega
    subst this
    exact Strs.nil _ _ _

set_option maxRecDepth 100000 in
set_option maxHeartbeats 6400000 in
theorem equal_any (ao bo : Option Addr) (n m c d : Nat) (xs ys : List ByteArray) (w : World) (h : Strs w (.slice ao n c) xs) (h2 : Strs w (.slice bo m d) ys) (hn : xs.length = n) (hm : ys.length = m) (hl : n ≤ 1000000) (hl2 : m ≤ 1000000) :
    Calls Tryd.prog 24 #[.slice ao n c, .slice bo m d] w fun e w' => e = .returned (.bool (decide (xs = ys))) ∧ Same w w' := by
  have HX := Lib.hid h
  have HY := Lib.hid h2
  have HN := Lib.hid hn
  have HM := Lib.hid hm
  obtain ⟨r, hr⟩ : ∃ r, decide (xs = ys) = r := ⟨_, rfl⟩
  have HR := Lib.hid hr
  rw [hr]
  clear h h2 hr
  by_cases hnm : n = m
  case neg =>
    have HF : Hid (r = false) := Lib.hid (by rw [← HR.out]; exact decide_eq_false (fun e => hnm (by rw [← hn, ← hm, e])))
    have hb : ((n : Int) == (m : Int)) = false := by simp; omega
    clear hn hm
    go_enter Tryd.func24, Tryd.ntmps24
    go_wp2
    go_ret
    exact ⟨by rw [HF.out]; rfl, Keeps.refl _ _⟩
  subst hnm
  clear hn hm
  have mixed : Tryd.prog.follows .mixedOrders = true := by kernel_rfl
  go_enter Tryd.func24, Tryd.ntmps24
  go_wp2
  go_loopw [13] (fun i wr => ∃ j : Nat, j ≤ n ∧ i = .int .i64 j ∧ Hid (xs.take j = ys.take j) ∧ Hid (Same w wr)) (fun i _ => n - (intOf i).toNat)
  case atStart => exact ⟨0, by omega, rfl, Lib.hid (by simp), Lib.hid (Keeps.refl _ _)⟩
  case round =>
    obtain ⟨j, hj, rfl, HT, HS⟩ := hrel
    by_cases hlt : j < n
    · have hju : j < xs.length := by rw [HN.out]; exact hlt
      have hjv : j < ys.length := by rw [HM.out]; exact hlt
      obtain ⟨a, rfl, hc⟩ := (HX.out.same HS.out).at hju
      obtain ⟨b, rfl, hd⟩ := (HY.out.same HS.out).at hjv
      have HX1 : Hid (xs[j]? = some xs[j]) := Lib.hid (List.getElem?_eq_getElem hju)
      have HY1 : Hid (ys[j]? = some ys[j]) := Lib.hid (List.getElem?_eq_getElem hjv)
      generalize xs[j] = x at hc HX1
      generalize ys[j] = y at hd HY1
      have hjn : (j : Int) < (n : Int) := by omega
      clear hju hjv
      by_cases hxy : x = y
      · have HT2 : Hid (xs.take (j + 1) = ys.take (j + 1)) := Lib.hid (by rw [List.take_add_one, List.take_add_one, HT.out, HX1.out, HY1.out, hxy])
        subst hxy
        go_wp2
        go_region
        go_wp2
        go_roundw
        case rel => exact ⟨j + 1, by omega, by go_num, HT2, Lib.hid HS.out.drew⟩
        case measure => simp [intOf]; omega
      · have HF : Hid (r = false) := Lib.hid (by rw [← HR.out]; exact decide_eq_false (fun e => hxy (by have h1 := HX1.out; rw [e, HY1.out] at h1; exact (Option.some.inj h1).symm)))
        have hnb := toList_nb hxy
        clear hxy
        go_wp2
        go_region
        go_wp2
        go_ret
        exact ⟨by rw [HF.out]; rfl, HS.out.drew⟩
    · obtain rfl : j = n := by omega
      have HF : Hid (r = true) := Lib.hid (by
        have h1 := HT.out
        rw [List.take_of_length_le (by rw [HN.out]; exact Nat.le_refl _), List.take_of_length_le (by rw [HM.out]; exact Nat.le_refl _)] at h1
        rw [← HR.out]; exact decide_eq_true h1)
      have hjn : ¬ (j : Int) < (j : Int) := by omega
      go_wp2
      go_ret
      exact ⟨by rw [HF.out]; rfl, HS.out⟩

set_option maxRecDepth 100000 in
set_option maxHeartbeats 6400000 in
theorem same_any (ao bo : Option Addr) (n m c d : Nat) (xs ys : List ByteArray) (w : World) (h : Strs w (.slice ao n c) xs) (h2 : Strs w (.slice bo m d) ys) (hn : xs.length = n) (hm : ys.length = m) (hl : n ≤ 1000000) (hl2 : m ≤ 1000000) :
    Calls Tryd.prog 13 #[.slice ao n c, .slice bo m d] w fun e w' => e = .returned (.bool (decide (xs = ys))) ∧ Same w w' := by
  have HX := Lib.hid h
  have HY := Lib.hid h2
  have HN := Lib.hid hn
  have HM := Lib.hid hm
  obtain ⟨r, hr⟩ : ∃ r, decide (xs = ys) = r := ⟨_, rfl⟩
  have HR := Lib.hid hr
  rw [hr]
  clear h h2 hr
  by_cases hnm : n = m
  case neg =>
    have HF : Hid (r = false) := Lib.hid (by rw [← HR.out]; exact decide_eq_false (fun e => hnm (by rw [← hn, ← hm, e])))
    have hb : ((n : Int) == (m : Int)) = false := by simp; omega
    clear hn hm
    go_enter Tryd.func13, Tryd.ntmps13
    go_wp2
    go_ret
    exact ⟨by rw [HF.out]; rfl, Keeps.refl _ _⟩
  subst hnm
  clear hn hm
  have mixed : Tryd.prog.follows .mixedOrders = true := by kernel_rfl
  go_enter Tryd.func13, Tryd.ntmps13
  go_wp2
  go_loopw [5] (fun i wr => ∃ j : Nat, j ≤ n ∧ i = .int .i64 j ∧ Hid (xs.take j = ys.take j) ∧ Hid (Same w wr)) (fun i _ => n - (intOf i).toNat)
  case atStart => exact ⟨0, by omega, rfl, Lib.hid (by simp), Lib.hid (Keeps.refl _ _)⟩
  case round =>
    obtain ⟨j, hj, rfl, HT, HS⟩ := hrel
    by_cases hlt : j < n
    · have hju : j < xs.length := by rw [HN.out]; exact hlt
      have hjv : j < ys.length := by rw [HM.out]; exact hlt
      obtain ⟨a, rfl, hc⟩ := (HX.out.same HS.out).at hju
      obtain ⟨b, rfl, hd⟩ := (HY.out.same HS.out).at hjv
      have HX1 : Hid (xs[j]? = some xs[j]) := Lib.hid (List.getElem?_eq_getElem hju)
      have HY1 : Hid (ys[j]? = some ys[j]) := Lib.hid (List.getElem?_eq_getElem hjv)
      generalize xs[j] = x at hc HX1
      generalize ys[j] = y at hd HY1
      have hjn : (j : Int) < (n : Int) := by omega
      clear hju hjv
      by_cases hxy : x = y
      · have HT2 : Hid (xs.take (j + 1) = ys.take (j + 1)) := Lib.hid (by rw [List.take_add_one, List.take_add_one, HT.out, HX1.out, HY1.out, hxy])
        subst hxy
        go_wp2
        go_region
        go_wp2
        go_roundw
        case rel => exact ⟨j + 1, by omega, by go_num, HT2, Lib.hid HS.out.drew⟩
        case measure => simp [intOf]; omega
      · have HF : Hid (r = false) := Lib.hid (by rw [← HR.out]; exact decide_eq_false (fun e => hxy (by have h1 := HX1.out; rw [e, HY1.out] at h1; exact (Option.some.inj h1).symm)))
        have hnb := toList_nb hxy
        clear hxy
        go_wp2
        go_region
        go_wp2
        go_ret
        exact ⟨by rw [HF.out]; rfl, HS.out.drew⟩
    · obtain rfl : j = n := by omega
      have HF : Hid (r = true) := Lib.hid (by
        have h1 := HT.out
        rw [List.take_of_length_le (by rw [HN.out]; exact Nat.le_refl _), List.take_of_length_le (by rw [HM.out]; exact Nat.le_refl _)] at h1
        rw [← HR.out]; exact decide_eq_true h1)
      have hjn : ¬ (j : Int) < (j : Int) := by omega
      go_wp2
      go_ret
      exact ⟨by rw [HF.out]; rfl, HS.out⟩

def joinP (l : List (List UInt8)) : List UInt8 := 47 :: Lib.join l [47]
theorem map_sb_bsA (l : List (List UInt8)) : (l.map bsA).map sb = l := by
  rw [List.map_map]
  have : (sb ∘ bsA) = id := funext fun x => sb_bsA x
  rw [this, List.map_id]
set_option maxRecDepth 100000 in
set_option maxHeartbeats 1600000 in
theorem pjoin_any (ao : Option Addr) (n c : Nat) (l : List (List UInt8)) (w : World) (h : Strs w (.slice ao n c) (l.map bsA)) (hn : l.length = n) (hsp : ∀ a, ao = some a → a.spot = none) (hc : n ≤ c) (hl : n ≤ 1000000) (hlen : (Lib.join l [47]).length ≤ 1000000) :
    Calls Tryd.prog 23 #[.slice ao n c] w fun e w' => e = .returned (.string (bsA (joinP l))) ∧ Same w w' := by
  have HJ := Lib.hid (join_any ao n c (l.map bsA) w h (by rw [List.length_map]; exact hn) hsp hc hl (by rw [map_sb_bsA]; exact hlen))
  rw [map_sb_bsA] at HJ
  have HC : Hid (({ data := #[47] } : ByteArray) ++ bsA (Lib.join l [47]) = bsA (joinP l)) := Lib.hid (sb_inj (by
    show (ByteArray.append _ _).data.toList = _
    rw [sb_bsA]
    simp [bsA, joinP, ByteArray.data_append]))
  have hlen2 : ((bsA (Lib.join l [47])).size : Int) ≤ 1000000 := by
    have : (bsA (Lib.join l [47])).size = (Lib.join l [47]).length := by rw [← sb_length, sb_bsA]
    omega
  generalize bsA (Lib.join l [47]) = z at HJ HC hlen2
  clear h hn hsp
  go_enter Tryd.func23, Tryd.ntmps23
  go_wp2_with fail
  ((with_reducible refine HJ.out.mono ?_); rintro e w1 ⟨rfl, hk1⟩)
  have HK := Lib.hid hk1
  clear hk1
  go_wp2
  go_ret
  exact ⟨by rw [← HC.out]; rfl, HK.out⟩
end Go.Proofs.YtjehihgcbbialaaDoor
