/- floor, spoil, the bytes of a raw operation, writes that are refused. -/
import Derived.Test.YtoimhniijeafaaaDk27
import Derived.Test.YtoimhniijeafaaaDk15
namespace Go.Proofs.Ytoimhniijeafaaa
open Go.RowKit
set_option linter.unusedVariables false

theorem floor_facts (a b : Int) (hb : 0 < b) : (if a.tmod b < 0 then a.tdiv b - 1 else a.tdiv b) = a / b ∧ (if a.tmod b < 0 then a.tmod b + b else a.tmod b) = a % b := by
  have h1 := Int.emod_nonneg a (show b ≠ 0 by omega)
  have h2 := Int.emod_lt_of_pos a hb
  have h6 : b.sign = 1 := Int.sign_eq_one_of_pos hb
  rw [Int.tmod_eq_emod, Int.tdiv_eq_ediv, h6]
  by_cases h : 0 ≤ a ∨ b ∣ a
  · simp only [if_pos h]
    constructor <;> split <;> omega
  · simp only [if_neg h]
    constructor <;> split <;> omega
theorem floor_small (a b : Int) (hb : 0 < b) (ha : -9223372036854775808 ≤ a ∧ a ≤ 9223372036854775807) : -9223372036854775808 ≤ a.tdiv b ∧ a.tdiv b ≤ 9223372036854775807 ∧ -b < a.tmod b ∧ a.tmod b < b := by
  have h1 := Int.emod_nonneg a (show b ≠ 0 by omega)
  have h2 := Int.emod_lt_of_pos a hb
  have h3 : (a.tdiv b).natAbs ≤ a.natAbs := by rw [Int.natAbs_tdiv]; exact Nat.div_le_self _ _
  refine ⟨by omega, ?_, ?_, ?_⟩
  · by_cases h0 : a = -9223372036854775808
    · subst h0
      have h4 : (-9223372036854775808 : Int).tdiv b ≤ 0 := by
        rw [Int.neg_tdiv]
        have := Int.tdiv_nonneg (show (0 : Int) ≤ 9223372036854775808 by decide) (show 0 ≤ b by omega)
        omega
      omega
    · omega
  · rw [Int.tmod_eq_emod]; split <;> omega
  · rw [Int.tmod_eq_emod]; split <;> omega

set_option maxRecDepth 100000 in
set_option maxHeartbeats 3200000 in
theorem floor_ok (a0 b : Int) (w : World) (hb : 0 < b) (hb2 : b ≤ 1000) (ha : -9223372036854775808 ≤ a0 ∧ a0 ≤ 9223372036854775807) :
    Calls Try.prog 30 #[.int .i64 a0, .int .i64 b] w fun e w' => e = .returned (.tuple #[.int .i64 (a0 / b), .int .i64 (a0 % b)]) ∧ Same w w' := by
  obtain ⟨f1, f2⟩ := floor_facts a0 b hb
  obtain ⟨s1, s2, s3, s4⟩ := floor_small a0 b hb ha
  have HB0 : Hid (¬ b = 0) := Lib.hid (by omega)
  obtain ⟨q, hq⟩ : ∃ q, a0.tdiv b = q := ⟨_, rfl⟩
  obtain ⟨r, hr⟩ : ∃ r, a0.tmod b = r := ⟨_, rfl⟩
  obtain ⟨x, hx⟩ : ∃ x, a0 / b = x := ⟨_, rfl⟩
  obtain ⟨y, hy⟩ : ∃ y, a0 % b = y := ⟨_, rfl⟩
  rw [hq, hr, hx] at f1
  rw [hr, hy] at f2
  rw [hq] at s1 s2
  rw [hr] at s3 s4
  rw [hx, hy]
  have HQ1 := Lib.hid hq
  have HR1 := Lib.hid hr
  have HQ2 : Hid (IntKind.i64.wrap q = q) := Lib.hid (by exact IntWalk.i64_in _ (by omega))
  have HR2 : Hid (IntKind.i64.wrap r = r) := Lib.hid (by exact IntWalk.i64_in _ (by omega))
  have HX : Hid (r < 0 → x = q - 1 ∧ y = r + b) := Lib.hid (fun h => by rw [if_pos h] at f1 f2; exact ⟨f1.symm, f2.symm⟩)
  have HY : Hid (¬ r < 0 → x = q ∧ y = r) := Lib.hid (fun h => by rw [if_neg h] at f1 f2; exact ⟨f1.symm, f2.symm⟩)
  have HW1 : Hid (r < 0 → IntKind.i64.wrap (q - 1) = q - 1 ∧ IntKind.i64.wrap (r + b) = r + b) := Lib.hid (fun h => by
    have hx0 : -9223372036854775808 ≤ x := by
      have h1 := Int.emod_nonneg a0 (show b ≠ 0 by omega)
      rw [← hx]
      have h3 := Int.mul_ediv_add_emod a0 b
      by_cases hq2 : a0 / b < -9223372036854775808
      · have : b * (a0 / b) ≤ 1 * (a0 / b) := Int.mul_le_mul_of_nonpos_right (by omega) (by omega)
        have h4 := Int.emod_lt_of_pos a0 hb
        have h6 : b * (a0 / b) ≤ b * (-9223372036854775809) := Int.mul_le_mul_of_nonneg_left (by omega) (by omega)
        omega
      · omega
    rw [if_pos h] at f1
    exact ⟨IntWalk.i64_in _ (by omega), IntWalk.i64_in _ (by omega)⟩)
  clear f1 f2 hq hr hx hy s1 s2 ha
  go_enter Try.func30, Try.ntmps30
  go_wp2_with fail
  refine wp_region_do [[], [], [0, 1], [], [], [3, 4], [2, 0, 1, 2], [5, 6, 0, 1, 2, 3, 4, 5, 6]]
    [some 8, some 9, some 10, some 11, some 12, some 13, some 6, some 7]
    [.is (.int .i64 a0), .is (.int .i64 b), .is (.int .i64 q), .is (.int .i64 a0), .is (.int .i64 b), .is (.int .i64 r), .is (.int .i64 q), .is (.int .i64 r)]
    1 _ _ 23 8 (by kernel_rfl) (by rfl) (by rfl) (by kernel_rfl) (by kernel_rfl) (by decide) ?_ ?_
  · refine ⟨?_, ?_, ?_, ?_, ?_, ?_, ?_, ?_, trivial⟩
    · intro a w' K hs' hdep hfr hK
      have f := hfr 0 (by decide)
      exact plan_do (by rfl) (plan_yield (i := 0) (V := fun _ _ v => v = (.int .i64 a0 : Value)) (.int .i64 a0) (by go_simp) rfl hK)
    · intro a w' K hs' hdep hfr hK
      have f := hfr 1 (by decide)
      exact plan_do (by rfl) (plan_yield (i := 1) (V := fun _ _ v => v = (.int .i64 b : Value)) (.int .i64 b) (by go_simp) rfl hK)
    · intro a w' K hs' hdep hfr hK
      have e8 : a.tmps[8]?.getD undef = (.int .i64 a0) := hdep 0 (by decide) 8 rfl
      have e9 : a.tmps[9]?.getD undef = (.int .i64 b) := hdep 1 (by decide) 9 rfl
      have h1 := HQ1.out
      have h2 := HQ2.out
      have h0 := HB0.out
      exact plan_do (by rfl) (plan_yield (i := 2) (V := fun _ _ v => v = (.int .i64 q : Value)) (.int .i64 q) (by go_simp) rfl hK)
    · intro a w' K hs' hdep hfr hK
      have f := hfr 0 (by decide)
      exact plan_do (by rfl) (plan_yield (i := 3) (V := fun _ _ v => v = (.int .i64 a0 : Value)) (.int .i64 a0) (by go_simp) rfl hK)
    · intro a w' K hs' hdep hfr hK
      have f := hfr 1 (by decide)
      exact plan_do (by rfl) (plan_yield (i := 4) (V := fun _ _ v => v = (.int .i64 b : Value)) (.int .i64 b) (by go_simp) rfl hK)
    · intro a w' K hs' hdep hfr hK
      have e11 : a.tmps[11]?.getD undef = (.int .i64 a0) := hdep 3 (by decide) 11 rfl
      have e12 : a.tmps[12]?.getD undef = (.int .i64 b) := hdep 4 (by decide) 12 rfl
      have h1 := HR1.out
      have h2 := HR2.out
      have h0 := HB0.out
      exact plan_do (by rfl) (plan_yield (i := 5) (V := fun _ _ v => v = (.int .i64 r : Value)) (.int .i64 r) (by go_simp) rfl hK)
    · intro a w' K hs' hdep hfr hK
      have e10 : a.tmps[10]?.getD undef = (.int .i64 q) := hdep 2 (by decide) 10 rfl
      have e8 : a.tmps[8]?.getD undef = (.int .i64 a0) := hdep 0 (by decide) 8 rfl
      have e9 : a.tmps[9]?.getD undef = (.int .i64 b) := hdep 1 (by decide) 9 rfl
      exact plan_do (by rfl) (plan_yield (i := 6) (V := fun _ _ v => v = (.int .i64 q : Value)) (.int .i64 q) (by go_simp) rfl hK)
    · intro a w' K hs' hdep hfr hK
      have e13 : a.tmps[13]?.getD undef = (.int .i64 r) := hdep 5 (by decide) 13 rfl
      have e6 : a.tmps[6]?.getD undef = (.int .i64 q) := hdep 6 (by decide) 6 rfl
      have e8 : a.tmps[8]?.getD undef = (.int .i64 a0) := hdep 0 (by decide) 8 rfl
      have e9 : a.tmps[9]?.getD undef = (.int .i64 b) := hdep 1 (by decide) 9 rfl
      have e10 : a.tmps[10]?.getD undef = (.int .i64 q) := hdep 2 (by decide) 10 rfl
      have e11 : a.tmps[11]?.getD undef = (.int .i64 a0) := hdep 3 (by decide) 11 rfl
      have e12 : a.tmps[12]?.getD undef = (.int .i64 b) := hdep 4 (by decide) 12 rfl
      exact plan_do (by rfl) (plan_yield (i := 7) (V := fun _ _ v => v = (.int .i64 r : Value)) (.int .i64 r) (by go_simp) rfl hK)
  intro a w9 hk9 hdef hsz hv hfr
  have e6 : a.tmps[6]?.getD undef = .int .i64 q := hv 6 6 rfl
  have e7 : a.tmps[7]?.getD undef = .int .i64 r := hv 7 7 rfl
  have he := act_eq a _ [some 8, some 9, some 10, some 11, some 12, some 13, some 6, some 7] 23 rfl hsz hdef hfr (fun d => a.tmps[d]?.getD undef) (fun _ _ => rfl)
  obtain ⟨v8, h8⟩ : ∃ v, a.tmps[8]?.getD undef = v := ⟨_, rfl⟩
  obtain ⟨v9, h9⟩ : ∃ v, a.tmps[9]?.getD undef = v := ⟨_, rfl⟩
  obtain ⟨v10, h10⟩ : ∃ v, a.tmps[10]?.getD undef = v := ⟨_, rfl⟩
  obtain ⟨v11, h11⟩ : ∃ v, a.tmps[11]?.getD undef = v := ⟨_, rfl⟩
  obtain ⟨v12, h12⟩ : ∃ v, a.tmps[12]?.getD undef = v := ⟨_, rfl⟩
  obtain ⟨v13, h13⟩ : ∃ v, a.tmps[13]?.getD undef = v := ⟨_, rfl⟩
  simp only [putAll, h8, h9, h10, h11, h12, h13, e6, e7, List.setIfInBounds_toArray, List.set_cons_zero, List.set_cons_succ] at he
  clear h8 h9 h10 h11 h12 h13 e6 e7 hdef hsz hv hfr
  subst he
  by_cases hneg : r < 0
  · obtain ⟨rfl, rfl⟩ := HX.out (by omega)
    obtain ⟨z1, z2⟩ := HW1.out (by omega)
    go_wp2
    go_ret2
    exact ⟨rfl, hk9⟩
  · obtain ⟨rfl, rfl⟩ := HY.out (by omega)
    go_wp2
    go_ret2
    exact ⟨rfl, hk9⟩

set_option maxRecDepth 100000 in
set_option maxHeartbeats 3200000 in
theorem spoil_ok (w : World) (base n g c : Nat) (bs : List UInt8) (h : w.ownsRow base 5 1 (.slice (some ⟨g, 0, none⟩) n c) n (u8s bs)) (hn : n ≤ 100000) :
    Calls Try.prog 23 #[.slice (some ⟨g, 0, none⟩) n c] w fun e w' => (∃ v, e = .returned v) ∧ Keeps (fun k => k = g) w w' := by
  have H := Lib.hid h
  have hbl : bs.length = n := by have := h.1; rw [u8s_length] at this; omega
  have HBL := Lib.hid hbl
  clear h hbl
  go_enter Try.func23, Try.ntmps23
  go_wp2
  go_loopw [5] (fun i wr => ∃ (j : Nat) (bs : List UInt8), j ≤ n ∧ i = .int .i64 j ∧ wr.ownsRow base 5 1 (.slice (some ⟨g, 0, none⟩) n c) n (u8s bs) ∧ Keeps (fun k => k = g) w wr) (fun i _ => n - (intOf i).toNat)
  case atStart => exact ⟨0, bs, by omega, rfl, H.out, Keeps.refl _ _⟩
  case round =>
    obtain ⟨j, bs, hj, rfl, ho, hk⟩ := hrel
    have HO := Lib.hid ho
    have HK := Lib.hid hk
    clear ho hk
    by_cases hlt : j < n
    · have hlt2 : (j : Int) < (n : Int) := by omega
      obtain ⟨cl, fl⟩ := own_cell HO.out j hlt
      have HO2 := Lib.hid (own_set8 (u := .int .u8 238) 238 HO.out hlt rfl)
      have HK2 : Hid (Keeps (fun k => k = g) w (wr.setCell ⟨g, j, none⟩ (.int .u8 238))) := Lib.hid (HK.out.setCell _ _ (.inr rfl))
      go_wp2
      go_roundw
      case rel => exact ⟨j + 1, _, by omega, by go_num, HO2.out, HK2.out⟩
      case measure => simp [intOf]; omega
    · have hlt2 : ¬ (j : Int) < (n : Int) := by omega
      go_wp2
      go_end0
      exact ⟨⟨_, rfl⟩, HK.out⟩
set_option maxRecDepth 100000 in
theorem spoil_nil (w : World) (ao : Option Addr) (c : Nat) : Calls Try.prog 23 #[.slice ao 0 c] w fun e w' => (∃ v, e = .returned v) ∧ w' = w := by
  go_enter Try.func23, Try.ntmps23
  go_wp2
  go_loopw [5] (fun i wr => i = .int .i64 0 ∧ wr = w) (fun _ _ => 0)
  case atStart => exact ⟨rfl, rfl⟩
  case round =>
    obtain ⟨rfl, rfl⟩ := hrel
    go_wp2
    go_end0
    exact ⟨⟨_, rfl⟩, rfl⟩

set_option maxRecDepth 100000 in
set_option maxHeartbeats 3200000 in
theorem bytes_raw (kd at' : Int) (ao fo : Option Addr) (cap fl fc : Nat) (data : List UInt8) (w : World) (hx : Bytes w (.slice ao data.length cap) data) (hl : data.length ≤ 100000) :
    Calls Try.prog 13 #[opv kd at' (.slice ao data.length cap) true (.slice fo fl fc)] w fun e w' => ∃ g c, e = .returned (.slice (some ⟨g, 0, none⟩) data.length c) ∧ w'.ownsRow w.heap.size 5 1 (.slice (some ⟨g, 0, none⟩) data.length c) data.length (u8s data) ∧ Same w w' := by
  obtain ⟨iu, hiu, hu0, hu1, hu2⟩ := info_parts Try.infoB8
  obtain ⟨w1, hw1⟩ : ∃ w1, w.alloc (.cells #[.int .i64 kd, .int .i64 at', .slice ao data.length cap, .bool true, .slice fo fl fc] 34) = w1 := ⟨_, rfl⟩
  have hk1 : Same w w1 := by rw [← hw1]; exact (Keeps.refl _ _).alloc _
  have hb1 : Whole w1 w.heap.size 34 [.int .i64 kd, .int .i64 at', .slice ao data.length cap, .bool true, .slice fo fl fc] := by rw [← hw1]; exact heap_alloc_new w _
  have hs1 : w1.heap.size = w.heap.size + 1 := by rw [← hw1]; simp
  have HOE : Hid ((w1.alloc (.cells #[] 5)).ownsRow (w.heap.size + 1) 5 1 (.slice (some ⟨w.heap.size + 1, 0, none⟩) ([] : List UInt8).length 0) ([] : List UInt8).length (u8s [])) := Lib.hid (by have h := own_empty w1 5; rw [hs1] at h; exact h)
  have HS1 := Lib.hid hs1
  have HSZ : Hid (w.heap.size + 1 ≤ (w1.alloc (.cells #[] 5)).heap.size) := Lib.hid (by simp; omega)
  have HX : Hid (Bytes (w1.alloc (.cells #[] 5)) (.slice ao data.length cap) data) := Lib.hid ((hx.same hk1).same ((Keeps.refl _ _).alloc _))
  have HK := Lib.hid hk1
  have HW := Lib.hid hw1
  obtain ⟨c0, c1, c2, c3, c4⟩ := cell_of_five hb1
  clear hx hk1 hb1 hw1 hs1
  go_enter Try.func13, Try.ntmps13
  go_wp2_with (first
    | (at_builtin; (try rw [HW.out]); refine wpList_append_bytes (by rfl) _ _ 31 5 iu (by rfl) Try.underlying31 hiu hu0 hu1 hu2 (w.heap.size + 1) (w.heap.size + 1) 0 [] data _ (by rfl) (by rfl) HOE.out HX.out (by simp; omega) HSZ.out ?_))
  intro g' cap' w' hown hgr _
  have HKK : Hid (Same w w') := Lib.hid (by
    have hs := HS1.out
    have k2 := ((Keeps.refl (fun _ => False) w1).alloc (.cells #[] 5)).trans ((Keeps.refl (fun k => k = w.heap.size + 1) _).grown hgr (fun k e _ => by cases e; rfl)) (fun j hj e => by omega)
    exact HK.out.trans k2 (fun _ _ e => e))
  have HOW : Hid (w'.ownsRow w.heap.size 5 1 (.slice (some ⟨g', 0, none⟩) data.length cap') data.length (u8s data)) := Lib.hid (by
    have h := hown
    exact own_base h (by omega))
  clear hown hgr
  go_wp2
  go_ret
  exact ⟨g', cap', rfl, HOW.out, HKK.out⟩
end Go.Proofs.Ytoimhniijeafaaa
