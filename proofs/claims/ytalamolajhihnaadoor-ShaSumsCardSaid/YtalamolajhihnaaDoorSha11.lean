/- The walk of ShaApart. -/
import Derived.Test.YtalamolajhihnaaDoorSha10
namespace Go.Proofs.YtalamolajhihnaaDoor
open Go.RowKit
set_option linter.unusedVariables false

theorem Held.addr {w : World} {ao : Option Addr} {L cap : Nat} {bs : List UInt8} (h : Held w ao L cap bs) (h0 : 0 < L) : ∃ a, ao = some a := by
  rcases h.1 with ⟨a, c, e, _⟩ | ⟨c, e, e2⟩
  · simp only [Value.slice.injEq] at e; exact ⟨a, e.1⟩
  · have := h.2.1; subst e2; simp at this; omega
/-- One byte out of the middle. -/
theorem Held.one {w : World} {a : Addr} {L cap : Nat} {bs : List UInt8} (h : Held w (some a) L cap bs) (i : Nat) (hi : i < L) : Held w (some (a.add i)) 1 (cap - i) ((bs.drop i).take 1) := by
  have h1 := h.1.cutAt h.2.1 i (by omega) h.2.2.1 (L - i) (cap - i) rfl
  have hc := h.2.2.1
  rw [if_neg (by omega)] at h1
  have h2 := Bytes.take (a := a.add i) h1 1 (by rw [List.length_drop, h.2.1]; omega)
  exact ⟨h2, by rw [List.length_take, List.length_drop, h.2.1]; omega, by omega, by have := h.2.2.2; omega⟩
theorem shaSum_d (ao : Option Addr) (L cap : Nat) (bs : List UInt8) (w : World) (hb : Bytes w (.slice ao L cap) bs) (hL : bs.length = L) (hc : L ≤ cap) (hcm : cap ≤ 9223372036854775807) (hl : L ≤ 1000000) (hN : Nums w) :
    Calls Tryd.prog 8 #[.slice ao L cap] w fun e w' => e = .returned (.agg (u8s (digest (feed hs0 bs))).toArray) ∧ Same w w' := by
  have h := shaSum_any ao L cap bs w hb hL hc hcm hl hN
  unfold shaOf at h
  exact h
theorem feed_one (h : HS) (bs : List UInt8) (i : Nat) : feed (feed h (bs.take i)) ((bs.drop i).take 1) = feed h (bs.take (i + 1)) := by
  rw [← feed_append, ← List.take_add]
theorem feed_over (h : HS) (bs : List UInt8) (i : Nat) (hi : bs.length ≤ i) : feed h (bs.take (i + 1)) = feed h (bs.take i) := by
  rw [List.take_of_length_le (by omega), List.take_of_length_le (by omega)]
theorem feed0_n (bs : List UInt8) (i : Nat) : (feed hs0 (bs.take i)).n ≤ bs.length := by
  rw [(feed_len hs0 _).2, List.length_take]; simp [hs0]; omega

set_option maxRecDepth 100000 in
set_option maxHeartbeats 12800000 in
theorem apart_long (ao bo : Option Addr) (n m c d : Nat) (w : World) (hN : Nums w) (h : (2000 : Int) < (n : Int) ∨ (2000 : Int) < (m : Int)) :
    Calls Tryd.prog 5 #[.slice ao n c, .slice bo m d] w fun e w' => e = .returned (.bool true) ∧ Same w w' := by
  have HN := Lib.hid hN
  clear hN
  by_cases h1 : (2000 : Int) < (n : Int)
  · clear h
    go_enter Tryd.func5, Tryd.ntmps5
    go_wp2_with fail
    ((with_reducible refine (speaks03 _ HN.out).mono ?_); rintro e w1 ⟨rfl, hk1⟩)
    go_wp2
    go_ret
    exact ⟨rfl, hk1⟩
  · have h2 : (2000 : Int) < (m : Int) := by omega
    clear h
    go_enter Tryd.func5, Tryd.ntmps5
    go_wp2_with fail
    ((with_reducible refine (speaks03 _ HN.out).mono ?_); rintro e w1 ⟨rfl, hk1⟩)
    go_wp2
    go_ret
    exact ⟨rfl, hk1⟩

set_option maxRecDepth 100000 in
set_option maxHeartbeats 25600000 in
theorem apart_short (ao bo : Option Addr) (n m c d : Nat) (as' bs : List UInt8) (w : World) (hN : Nums w) (ha : Held w ao n c as') (hb : Held w bo m d bs) (h1 : ¬ (2000 : Int) < (n : Int)) (h2 : ¬ (2000 : Int) < (m : Int)) :
    Calls Tryd.prog 5 #[.slice ao n c, .slice bo m d] w fun e w' => e = .returned (.bool true) ∧ Same w w' := by
  have HN := Lib.hid hN
  have HA := Lib.hid ha
  have HB := Lib.hid hb
  have hac : n ≤ c := ha.2.2.1
  have hbd : m ≤ d := hb.2.2.1
  have hacm : c ≤ 9223372036854775807 := ha.2.2.2
  have hbdm : d ≤ 9223372036854775807 := hb.2.2.2
  obtain ⟨i0, hi0, hz0, hz1, hz2⟩ := info_parts (show (Tryd.prog.info? 5).map (fun i => (i.zero, i.size, i.bytes)) = some (some (.int .u8 0), 1, 1) from by kernel_rfl)
  clear hN ha hb
  go_enter Tryd.func5, Tryd.ntmps5
  go_wp2_with fail
  ((with_reducible refine (speaks03 _ HN.out).mono ?_); rintro e w1 ⟨rfl, hk1⟩)
  have HK1 := Lib.hid hk1
  have HN1 : Hid (Nums w1) := Lib.hid (HN.out.keep hk1 (fun e => e))
  clear hk1
  go_wp2_with fail
  ((with_reducible refine (new_any _ (nums_pos HN1.out)).mono ?_); rintro e w2 ⟨rfl, hx2, hk2⟩)
  have HX2 := Lib.hid hx2
  have HK2 := Lib.hid hk2
  have HN2 : Hid (Nums w2) := Lib.hid (HN1.out.keep hk2 (fun e => e))
  have hs2 : w1.heap.size < w2.heap.size := hx2.whole.lt
  clear hx2 hk2
  go_wp2_with fail
  ((with_reducible refine (new_any _ (nums_pos HN2.out)).mono ?_); rintro e w3 ⟨rfl, hy3, hk3⟩)
  have HY3 := Lib.hid hy3
  have HX3 : Hid (HasherAt w3 w1.heap.size hs0) := Lib.hid (HX2.out.keep hk3 (fun e => e))
  have HK3 : Hid (Same w w3) := Lib.hid ((HK1.out.trans HK2.out (fun _ _ e => e)).trans hk3 (fun _ _ e => e))
  have hw1 : w.heap.size ≤ w1.heap.size := HK1.out.size
  clear hy3 hk3 HX2 HK2 HN2
  go_wp2
  obtain ⟨B1, hB1⟩ : ∃ B1, w1.heap.size = B1 := ⟨_, rfl⟩
  obtain ⟨B2, hB2⟩ : ∃ B2, w2.heap.size = B2 := ⟨_, rfl⟩
  rw [hB1, hB2]
  rw [hB1] at HX3
  rw [hB2] at HY3
  have hb12 : B1 < B2 := by omega
  have hwb : w.heap.size ≤ B1 := by omega
  clear hB1 hB2 hs2 hw1 HK1 HN1
  go_loopw [7] (fun i wr => ∃ j : Nat, i = .int .i64 j ∧ j ≤ 2000 ∧ HasherAt wr B1 (feed hs0 (as'.take j)) ∧ HasherAt wr B2 (feed hs0 (bs.take j)) ∧ Same w wr) (fun i _ => 2000 - (intOf i).toNat)
  case atStart => exact ⟨0, rfl, by omega, HX3.out, HY3.out, HK3.out⟩
  case round =>
    clear HX3 HY3 HK3
    obtain ⟨j, rfl, hj, hx, hy, hk⟩ := hrel
    obtain ⟨wo, rfl⟩ : ∃ wo : World, wo = wr := ⟨_, rfl⟩
    have HX := Lib.hid hx
    have HY := Lib.hid hy
    have HK := Lib.hid hk
    clear hx hy hk
    have hfa : (feed hs0 (as'.take j)).n ≤ 2000 := by have := feed0_n as' j; have := HA.out.2.1; omega
    have hfb : (feed hs0 (bs.take j)).n ≤ 2000 := by have := feed0_n bs j; have := HB.out.2.1; omega
    have hj1 : (0 : Int) ≤ (j : Int) := by omega
    by_cases q1 : (j : Int) < (n : Int)
    · obtain ⟨aa, rfl⟩ := HA.out.addr (by omega)
      have HA1 := Lib.hid (HA.out.one j (by omega))
      have hcj : ¬ c = j := by omega
      have hj2 : (j : Int) ≤ (j : Int) + 1 := by omega
      have hj3 : (j : Int) + 1 ≤ (c : Int) := by omega
      go_wp2_with fail
      ((with_reducible refine (add_held B1 _ _ (some (aa.add j)) 1 (c - j) _ HX.out (HN.out.keep HK.out (fun e => e)) HA1.out HK.out hwb (by omega)).mono ?_); rintro e w4 ⟨rfl, hx4, hk4⟩)
      rw [feed_one] at hx4
      have HX4 := Lib.hid hx4
      have HY4 : Hid (HasherAt w4 B2 (feed hs0 (bs.take j))) := Lib.hid (HY.out.keep hk4 (by omega))
      have HK4 : Hid (Same w w4) := Lib.hid (HK.out.trans hk4 (fun i hi e => by omega))
      clear hx4 hk4 hj2 hj3 hcj
      by_cases q2 : (j : Int) < (m : Int)
      · obtain ⟨ba, rfl⟩ := HB.out.addr (by omega)
        have HB1 := Lib.hid (HB.out.one j (by omega))
        have hdj : ¬ d = j := by omega
        have hj2 : (j : Int) ≤ (j : Int) + 1 := by omega
        have hj3 : (j : Int) + 1 ≤ (d : Int) := by omega
        go_wp2_with fail
        ((with_reducible refine (add_held B2 _ _ (some (ba.add j)) 1 (d - j) _ HY4.out (HN.out.keep HK4.out (fun e => e)) HB1.out HK4.out (by omega) (by omega)).mono ?_); rintro e w5 ⟨rfl, hy5, hk5⟩)
        rw [feed_one] at hy5
        have HY5 := Lib.hid hy5
        have HX5 : Hid (HasherAt w5 B1 (feed hs0 (as'.take (j + 1)))) := Lib.hid (HX4.out.keep hk5 (by omega))
        have HK5 : Hid (Same w w5) := Lib.hid (HK4.out.trans hk5 (fun i hi e => by omega))
        clear hy5 hk5
        go_wp2
        go_roundw
        case rel => exact ⟨j + 1, by go_num, by omega, HX5.out, HY5.out, HK5.out⟩
        case measure => simp [intOf]; omega
      · have hfo := feed_over hs0 bs j (by have := HB.out.2.1; omega)
        rw [← hfo] at HY4
        clear hfo
        go_wp2
        go_roundw
        case rel => exact ⟨j + 1, by go_num, by omega, HX4.out, HY4.out, HK4.out⟩
        case measure => simp [intOf]; omega
    · have hfo := feed_over hs0 as' j (by have := HA.out.2.1; omega)
      by_cases q2 : (j : Int) < (m : Int)
      · rw [← hfo] at HX
        clear hfo
        obtain ⟨ba, rfl⟩ := HB.out.addr (by omega)
        have HB1 := Lib.hid (HB.out.one j (by omega))
        have hdj : ¬ d = j := by omega
        have hj2 : (j : Int) ≤ (j : Int) + 1 := by omega
        have hj3 : (j : Int) + 1 ≤ (d : Int) := by omega
        go_wp2_with fail
        ((with_reducible refine (add_held B2 _ _ (some (ba.add j)) 1 (d - j) _ HY.out (HN.out.keep HK.out (fun e => e)) HB1.out HK.out (by omega) (by omega)).mono ?_); rintro e w5 ⟨rfl, hy5, hk5⟩)
        rw [feed_one] at hy5
        have HY5 := Lib.hid hy5
        have HX5 : Hid (HasherAt w5 B1 (feed hs0 (as'.take (j + 1)))) := Lib.hid (HX.out.keep hk5 (by omega))
        have HK5 : Hid (Same w w5) := Lib.hid (HK.out.trans hk5 (fun i hi e => by omega))
        clear hy5 hk5
        go_wp2
        go_roundw
        case rel => exact ⟨j + 1, by go_num, by omega, HX5.out, HY5.out, HK5.out⟩
        case measure => simp [intOf]; omega
      · clear hfo
        have ea : as'.take j = as' := List.take_of_length_le (by have := HA.out.2.1; omega)
        have eb : bs.take j = bs := List.take_of_length_le (by have := HB.out.2.1; omega)
        rw [ea] at HX hfa
        rw [eb] at HY hfb
        clear ea eb
        go_wp2_with fail
        ((with_reducible refine (sum_any B1 (feed hs0 as') _ HX.out (HN.out.keep HK.out (fun e => e))).mono ?_); rintro e w4 ⟨rfl, hk4⟩)
        have HK4 : Hid (Same w w4) := Lib.hid (HK.out.trans hk4 (fun _ _ e => e))
        have HY4 : Hid (HasherAt w4 B2 (feed hs0 bs)) := Lib.hid (HY.out.keep hk4 (fun e => e))
        clear hk4
        have HAB : Hid (Bytes w4 (.slice ao n c) as') := Lib.hid (HA.out.1.same HK4.out)
        have HAL : Hid (as'.length = n) := Lib.hid HA.out.2.1
        go_wp2_with fail
        ((with_reducible refine (shaSum_d ao n c as' _ HAB.out HAL.out hac hacm (by omega) (HN.out.keep HK4.out (fun e => e))).mono ?_); rintro e w5 ⟨rfl, hk5⟩)
        have HK5 : Hid (Same w w5) := Lib.hid (HK4.out.trans hk5 (fun _ _ e => e))
        have HY5 : Hid (HasherAt w5 B2 (feed hs0 bs)) := Lib.hid (HY4.out.keep hk5 (fun e => e))
        clear hk5
        have hla := digest_length (feed hs0 as')
        generalize digest (feed hs0 as') = da at hla ⊢
        have HEQa := Lib.hid (Tryd.hashSame da hla)
        clear hla
        go_wp2_with (refine wpList_eql_same (by rfl) _ _ 25 _ (by rfl) (u8s da).toArray (by rfl) (by rfl) Tryd.hashGuard HEQa.out ?_)
        ((with_reducible refine (sum_any B2 (feed hs0 bs) _ HY5.out (HN.out.keep HK5.out (fun e => e))).mono ?_); rintro e w6 ⟨rfl, hk6⟩)
        have HK6 : Hid (Same w w6) := Lib.hid (HK5.out.trans hk6 (fun _ _ e => e))
        clear hk6
        have HBB : Hid (Bytes w6 (.slice bo m d) bs) := Lib.hid (HB.out.1.same HK6.out)
        have HBL : Hid (bs.length = m) := Lib.hid HB.out.2.1
        go_wp2_with fail
        ((with_reducible refine (shaSum_d bo m d bs _ HBB.out HBL.out hbd hbdm (by omega) (HN.out.keep HK6.out (fun e => e))).mono ?_); rintro e w7 ⟨rfl, hk7⟩)
        have HK7 : Hid (Same w w7) := Lib.hid (HK6.out.trans hk7 (fun _ _ e => e))
        clear hk7
        have hlb := digest_length (feed hs0 bs)
        generalize digest (feed hs0 bs) = db at hlb ⊢
        have HEQb := Lib.hid (Tryd.hashSame db hlb)
        clear hlb
        go_wp2_with (refine wpList_eql_same (by rfl) _ _ 25 _ (by rfl) (u8s db).toArray (by rfl) (by rfl) Tryd.hashGuard HEQb.out ?_)
        go_ret
        exact ⟨rfl, HK7.out⟩

end Go.Proofs.YtalamolajhihnaaDoor
