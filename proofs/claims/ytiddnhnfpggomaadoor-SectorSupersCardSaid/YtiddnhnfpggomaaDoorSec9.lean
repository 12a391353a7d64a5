/- The walk of SectorSupers. -/
import Derived.Test.YtiddnhnfpggomaaDoorSec7
namespace Go.Proofs.YtiddnhnfpggomaaDoor
open Go.RowKit
set_option linter.unusedVariables false

set_option maxRecDepth 100000 in
set_option maxHeartbeats 12800000 in
theorem lawSupers_any (s : Sup) (hs : s.Ok) (ao : Option Addr) (c : Nat) (rs : List UInt8) (w : World) (hN : Nums w) (hr : Reads w (.slice ao rs.length c) rs) (hl : rs.length ≤ 140737488351232) :
    Calls Tryd.prog 4 #[.agg s.cells.toArray, .slice ao rs.length c] w fun e w' => e = .returned (.bool true) ∧ Same w w' := by
  obtain ⟨i0, hi0, hz0, hz1, hz2⟩ := info_parts (show (Tryd.prog.info? 5).map (fun i => (i.zero, i.size, i.bytes)) = some (some (.int .u8 0), 1, 1) from by kernel_rfl)
  have HN := Lib.hid hN
  have HS := Lib.hid hs
  have HR := Lib.hid hr
  have HRB : Hid (Bytes w (.slice ao rs.length c) rs) := Lib.hid (by obtain ⟨_, _, _, h, _⟩ := hr; exact h)
  have hrc : rs.length ≤ c := by obtain ⟨_, _, e, _, _, h⟩ := hr; simp only [Value.slice.injEq] at e; omega
  have HI := Lib.hid (Tryd.sizeSup s hs.head)
  obtain ⟨w1, hw1⟩ : ∃ w1, w.alloc (.cells s.cells.toArray 34) = w1 := ⟨_, rfl⟩
  have HX1 : Hid (Whole w1 w.heap.size 34 s.cells) := Lib.hid (by rw [← hw1]; exact heap_alloc_new w _)
  have HK1 : Hid (Same w w1) := Lib.hid (by rw [← hw1]; exact (Keeps.refl _ _).alloc _)
  clear hN hs hr
  go_enter Tryd.func4, Tryd.ntmps4
  go_wp2_with fail
  ((with_reducible refine (speaks04 _ (HN.out.keep HK1.out (fun e => e))).mono ?_); rintro e w2 ⟨rfl, hk2⟩)
  have HK2 : Hid (Same w w2) := Lib.hid (HK1.out.trans hk2 (fun _ _ e => e))
  have HX2 := Lib.hid (HX1.out.keep hk2 (fun e => e))
  clear hk2 HX1 HK1 hw1
  generalize hB1 : w.heap.size = B1 at *
  go_wp2_with (refine wpList_load_row (by rfl) 34 _ (by rfl) B1 (by rfl) 34 s.cells.toArray (0, 0) _ HX2.out Tryd.underlying34 rfl HI.out ?_)
  ((with_reducible refine (super_out s HS.out _ (HN.out.keep HK2.out (fun e => e))).mono ?_); rintro e w3 ⟨hk3, g3, c3, rfl, hr3⟩)
  have HK3 : Hid (Same w w3) := Lib.hid (HK2.out.trans hk3 (fun _ _ e => e))
  have HX3 := Lib.hid (HX2.out.keep hk3 (fun e => e))
  have HB3 := Lib.hid hr3
  have HBB3 : Hid (Bytes w3 (.slice (some ⟨g3, 0, none⟩) 512 c3) (superB s)) := Lib.hid (by obtain ⟨_, _, _, h, _⟩ := hr3; exact h)
  have hsl := superB_length s HS.out
  obtain ⟨Z, hZ⟩ : ∃ Z, superB s = Z := ⟨_, rfl⟩
  rw [hZ] at HB3 HBB3 hsl
  have HZL := Lib.hid hsl
  have HZ := Lib.hid hZ
  have HOE := Lib.hid (own_empty w3 5)
  have HBE : Hid (Bytes (w3.alloc (.cells #[] 5)) (.slice (some ⟨g3, 0, none⟩) 512 c3) Z) := Lib.hid (HBB3.out.same ((Keeps.refl _ _).alloc _))
  clear hk3 hr3 HK2 HX2 hsl hZ
  go_wp2_with (at_builtin; refine wpList_append_bytes (by rfl) _ _ 22 5 i0 (by rfl) Tryd.underlying22 hi0 hz0 hz1 hz2 w3.heap.size w3.heap.size 0 [] Z _ (by rfl) (by rfl) HOE.out HBE.out (by rw [HZL.out]; simp) (by simp) ?_)
  intro g4 c4 w4 ho4 hg4 hat4
  try simp only [List.length_nil, Nat.zero_add, List.nil_append] at ho4
  try simp only [List.length_nil, Nat.zero_add]
  have hk34 : Same w3 w4 := ((Keeps.refl (fun _ => False) w3).alloc _).grown hg4 (fun k e hk => by simp only [Option.some.injEq] at e; omega)
  have HK4 : Hid (Same w w4) := Lib.hid (HK3.out.trans hk34 (fun _ _ e => e))
  have HX4 := Lib.hid (HX3.out.keep hk34 (fun e => e))
  have HB4 := Lib.hid (HB3.out.same hk34)
  have HI4 : Hid (Reads w4 (.slice (some ⟨g4, 0, none⟩) Z.length c4) Z) := Lib.hid (Reads.of_own ho4 rfl)
  have HZ0 : Hid (Z ≠ []) := Lib.hid (by intro e; have := HZL.out; rw [e] at this; simp at this)
  clear ho4 hg4 hat4 hk34 HOE HBE HX3 HB3 HBB3 HK3
  go_wp2_with fail
  ((with_reducible refine (readSuper_reads _ Z _ (HN.out.keep HK4.out (fun e => e)) HI4.out HZ0.out (by rw [HZL.out]; omega)).mono ?_); rintro e w5 ⟨hk5, u, er, rfl, hu⟩)
  obtain ⟨hus, rfl⟩ := hu.unique (.inl ⟨HS.out, HZ.out.symm, rfl⟩)
  subst u
  have hzs := Tryd.zeroSup
  have HZ5 : Hid (sup0.cells.toArray.size = s.cells.toArray.size) := Lib.hid (by
    rw [List.size_toArray, List.size_toArray, cells_length s HS.out.head, cells_length sup0 (by simp [sup0])])
  have HN5 : Hid ((w5.alloc (.cells sup0.cells.toArray 34)).heap[w5.heap.size]? = some (.cells sup0.cells.toArray 34 (0, 0))) := Lib.hid (heap_alloc_new w5 _)
  obtain ⟨w6, hw6⟩ : ∃ w6, (w5.alloc (.cells sup0.cells.toArray 34)).setRow w5.heap.size s.cells.toArray = w6 := ⟨_, rfl⟩
  have hk56 : Same w5 w6 := by rw [← hw6]; exact ((Keeps.refl _ _).alloc _).setRow _ _ (.inl (Nat.le_refl _))
  have hk46 : Same w4 w6 := hk5.trans hk56 (fun _ _ e => e)
  have HK6 : Hid (Same w w6) := Lib.hid (HK4.out.trans hk46 (fun _ _ e => e))
  have HX6 := Lib.hid (HX4.out.keep hk46 (fun e => e))
  have HB6 := Lib.hid (HB4.out.same hk46)
  have HV6 : Hid (Whole w6 w5.heap.size 34 s.cells) := Lib.hid (by rw [← hw6]; exact Whole.row (cs := sup0.cells) (heap_alloc_new w5 _))
  have HW6 := Lib.hid hw6
  have HOE := Lib.hid (own_empty w6 5)
  have HBE : Hid (Bytes (w6.alloc (.cells #[] 5)) (.slice ao rs.length c) rs) := Lib.hid (HRB.out.same (HK6.out.alloc _))
  clear hk5 hu hk56 hk46 hw6 HX4 HB4 HK4
  generalize hB5 : w5.heap.size = B5 at *
  go_wp2_with (first
    | (refine wpList_store_row (by rfl) 34 _ _ (by rfl) B5 s.cells.toArray (by rfl) (by rfl) 34 sup0.cells.toArray HN5.out HI.out HZ5.out (sup_all _) ?_; rw [HW6.out])
    | (at_builtin; refine wpList_append_bytes (by rfl) _ _ 22 5 i0 (by rfl) Tryd.underlying22 hi0 hz0 hz1 hz2 w6.heap.size w6.heap.size 0 [] rs _ (by rfl) (by rfl) HOE.out HBE.out (by simp; omega) (by simp) ?_))
  intro g7 c7 w7 ho7 hg7 hat7
  try simp only [List.length_nil, Nat.zero_add, List.nil_append] at ho7
  try simp only [List.length_nil, Nat.zero_add]
  have hk67 : Same w6 w7 := ((Keeps.refl (fun _ => False) w6).alloc _).grown hg7 (fun k e hk => by simp only [Option.some.injEq] at e; omega)
  have HK7 : Hid (Same w w7) := Lib.hid (HK6.out.trans hk67 (fun _ _ e => e))
  have HX7 := Lib.hid (HX6.out.keep hk67 (fun e => e))
  have HB7 := Lib.hid (HB6.out.same hk67)
  have HV7 := Lib.hid (HV6.out.keep hk67 (fun e => e))
  have HI7 : Hid (Reads w7 (.slice (some ⟨g7, 0, none⟩) rs.length c7) rs) := Lib.hid (Reads.of_own ho7 rfl)
  have HIB7 : Hid (Bytes w7 (.slice (some ⟨g7, 0, none⟩) rs.length c7) rs) := Lib.hid (Bytes.of_own ho7)
  have hc7 : rs.length ≤ c7 := by obtain ⟨_, _, e, _, _, h⟩ := HI7.out; simp only [Value.slice.injEq] at e; omega
  clear ho7 hg7 hat7 hk67 HOE HBE HX6 HB6 HV6 HK6 HN5 HW6 hzs
  go_wp2_with fail
  ((with_reducible refine (readSuper_out _ rs.length c7 rs _ (HN.out.keep HK7.out (fun e => e)) rfl HIB7.out (fun x e _ => by cases e; rfl) hc7 hl (fun e => by simp at e)).mono ?_); rintro e w8 ⟨hk8, u, er, rfl, hu⟩)
  have hzs := Tryd.zeroSup
  have hok := hu.head
  have HU := Lib.hid hu
  have HOK := Lib.hid hok
  have HIU := Lib.hid (Tryd.sizeSup u hok.head)
  have HZ8 : Hid (sup0.cells.toArray.size = u.cells.toArray.size) := Lib.hid (by
    rw [List.size_toArray, List.size_toArray, cells_length u hok.head, cells_length sup0 (by simp [sup0])])
  have HN8 : Hid ((w8.alloc (.cells sup0.cells.toArray 34)).heap[w8.heap.size]? = some (.cells sup0.cells.toArray 34 (0, 0))) := Lib.hid (heap_alloc_new w8 _)
  obtain ⟨w9, hw9⟩ : ∃ w9, (w8.alloc (.cells sup0.cells.toArray 34)).setRow w8.heap.size u.cells.toArray = w9 := ⟨_, rfl⟩
  have hk89 : Same w8 w9 := by rw [← hw9]; exact ((Keeps.refl _ _).alloc _).setRow _ _ (.inl (Nat.le_refl _))
  have hk79 : Same w7 w9 := hk8.trans hk89 (fun _ _ e => e)
  have HK9 : Hid (Same w w9) := Lib.hid (HK7.out.trans hk79 (fun _ _ e => e))
  have HX9 := Lib.hid (HX7.out.keep hk79 (fun e => e))
  have HB9 := Lib.hid (HB7.out.same hk79)
  have HV9 := Lib.hid (HV7.out.keep hk79 (fun e => e))
  have HI9 := Lib.hid (HI7.out.same hk79)
  have HU9 : Hid (Whole w9 w8.heap.size 34 u.cells) := Lib.hid (by rw [← hw9]; exact Whole.row (cs := sup0.cells) (heap_alloc_new w8 _))
  have HW9 := Lib.hid hw9
  clear hk8 hu hok hk89 hk79 hw9 HX7 HB7 HV7 HI7 HIB7 HK7
  generalize hB8 : w8.heap.size = B8 at *
  go_wp2_with (first
    | (refine wpList_store_row (by rfl) 34 _ _ (by rfl) B8 u.cells.toArray (by rfl) (by rfl) 34 sup0.cells.toArray HN8.out HIU.out HZ8.out (sup_all _) ?_; rw [HW9.out]))
  ((with_reducible refine (rreadSuper_out _ rs.length c rs _ rfl (HRB.out.same HK9.out) hrc hl).mono ?_); rintro e wa ⟨hka, u', er', rfl, hu'⟩)
  obtain ⟨hue, rfl⟩ := hu'.unique HU.out
  subst u'
  have HNa : Hid ((wa.alloc (.cells sup0.cells.toArray 34)).heap[wa.heap.size]? = some (.cells sup0.cells.toArray 34 (0, 0))) := Lib.hid (heap_alloc_new wa _)
  obtain ⟨wb, hwb⟩ : ∃ wb, (wa.alloc (.cells sup0.cells.toArray 34)).setRow wa.heap.size u.cells.toArray = wb := ⟨_, rfl⟩
  have hkab : Same wa wb := by rw [← hwb]; exact ((Keeps.refl _ _).alloc _).setRow _ _ (.inl (Nat.le_refl _))
  have hk9b : Same w9 wb := hka.trans hkab (fun _ _ e => e)
  have HKb : Hid (Same w wb) := Lib.hid (HK9.out.trans hk9b (fun _ _ e => e))
  have HXb := Lib.hid (HX9.out.keep hk9b (fun e => e))
  have HBb := Lib.hid (HB9.out.same hk9b)
  have HVb := Lib.hid (HV9.out.keep hk9b (fun e => e))
  have HIb := Lib.hid (HI9.out.same hk9b)
  have HUb := Lib.hid (HU9.out.keep hk9b (fun e => e))
  have HYb : Hid (Whole wb wa.heap.size 34 u.cells) := Lib.hid (by rw [← hwb]; exact Whole.row (cs := sup0.cells) (heap_alloc_new wa _))
  have HWb := Lib.hid hwb
  clear hka hu' hkab hk9b hwb HX9 HB9 HV9 HI9 HU9 HK9 HN8 HW9
  generalize hBa : wa.heap.size = Ba at *
  go_wp2_with (first
    | (refine wpList_store_row (by rfl) 34 _ _ (by rfl) Ba u.cells.toArray (by rfl) (by rfl) 34 sup0.cells.toArray HNa.out HIU.out HZ8.out (sup_all _) ?_; rw [HWb.out]))
  generalize er' = er at *
  refine wp_region_do [[], [0], [], [2], [3], [1, 4], [5, 3], [6], [7, 6], [6, 8], [9, 6], [10], [10], [11, 12, 10], [10, 13], [14, 10], [15], [15], [16, 17, 15], [15, 18], [19, 15], [20], [20], [21, 22, 20], [20, 23], [24, 20], [25], [26, 25], [25], [28, 25], [27, 29, 25], [25, 30], [31, 25, 0, 1, 2, 3, 4, 5, 6, 7, 8, 9, 10, 11, 12, 13, 14, 15, 16, 17, 18, 19, 20, 21, 22, 23, 24, 25, 26, 27, 28, 29, 30, 31]]
    [some 37, some 38, some 39, some 40, some 41, some 42, some 43, some 44, some 45, some 46, some 47, some 48, some 49, some 50, some 51, some 52, some 53, some 54, some 55, some 56, some 57, some 58, some 59, some 60, some 61, some 62, some 63, some 64, some 65, some 66, some 67, some 68, some 4]
    [.is (.slice (some ⟨g3, 0, none⟩) 512 c3), .is (strV Z), .is (supV s), .reads (superB s), .is (strV Z), .is (.bool true), .is (.bool true), .is (.int .i64 0), .is (.bool true), .is (.bool true), .is (.bool true), .is (supV s), .is (supV s), .is (.bool true), .is (.bool true), .is (.bool true), .is (supV u), .is (supV u), .is (.bool true), .is (.bool true), .is (.bool true), .is (.int .i64 er), .is (.int .i64 er), .is (.bool true), .is (.bool true), .is (.bool true), .is (.slice (some ⟨g7, 0, none⟩) rs.length c7), .is (strV rs), .is (.slice ao rs.length c), .is (strV rs), .is (.bool true), .is (.bool true), .is (.bool true)]
    8 _ _ 69 33 (by kernel_rfl) (by rfl) (by rfl) (by kernel_rfl) (by kernel_rfl) (by decide) ?_ ?_
  · refine ⟨?_, ?_, ?_, ?_, ?_, ?_, ?_, ?_, ?_, ?_, ?_, ?_, ?_, ?_, ?_, ?_, ?_, ?_, ?_, ?_, ?_, ?_, ?_, ?_, ?_, ?_, ?_, ?_, ?_, ?_, ?_, ?_, ?_, trivial⟩
    · intro a w' K hs' hdep hfr hK
      have f5 := hfr 5 (by decide)
      exact plan_do (by rfl) (plan_yield (i := 0) (V := fun _ _ v => v = (.slice (some ⟨g3, 0, none⟩) 512 c3 : Value)) (.slice (some ⟨g3, 0, none⟩) 512 c3) (by go_simp) rfl hK)
    · intro a w' K hs' hdep hfr hK
      have e37 : a.tmps[37]?.getD undef = .slice (some ⟨g3, 0, none⟩) 512 c3 := hdep 0 (by decide) 37 rfl
      have k := run_reads (HBb.out.same hs')
      exact plan_do (by rfl) (plan_yield (i := 1) (V := fun _ _ v => v = (strV Z : Value)) (strV Z) (by go_simp) rfl hK)
    · intro a w' K hs' hdep hfr hK
      have f := hfr 2 (by decide)
      exact plan_do (by rfl) (wp_load_row 34 (.tmp 2) rfl B1 ((eval_tmp _ _).trans f) 34 s.cells.toArray (0, 0) _ (HXb.out.keep hs' (fun e => e)) Tryd.underlying34 rfl HI.out (hK _ _ (Keeps.refl _ _) rfl))
    · intro a w' K hs' hdep hfr hK
      have e39 : a.tmps[39]?.getD undef = supV s := hdep 2 (by decide) 39 rfl
      refine plan_do (by rfl) (plan_call 16 #[supV s] (by go_simp) ?_)
      exact (rsuper_out s HS.out w').mono fun e w'' ⟨hk, g, c, he, hr⟩ => ⟨_, he, hK _ _ hk hr⟩
    · intro a w' K hs' hdep hfr hK
      have r40 : Reads w' (a.tmps[40]?.getD undef) Z := by have h : Reads w' (a.tmps[40]?.getD undef) (superB s) := hdep 3 (by decide) 40 rfl; rw [HZ.out] at h; exact h
      have k := run_reads r40
      exact plan_do (by rfl) (plan_yield (i := 4) (V := fun _ _ v => v = (strV Z : Value)) (strV Z) (by go_simp) rfl hK)
    · intro a w' K hs' hdep hfr hK
      have e38 : a.tmps[38]?.getD undef = strV Z := hdep 1 (by decide) 38 rfl
      have e41 : a.tmps[41]?.getD undef = strV Z := hdep 4 (by decide) 41 rfl
      exact plan_do (by rfl) (plan_yield (i := 5) (V := fun _ _ v => v = (.bool true : Value)) (.bool true) (by go_simp) rfl hK)
    · intro a w' K hs' hdep hfr hK
      have e42 : a.tmps[42]?.getD undef = .bool true := hdep 5 (by decide) 42 rfl
      exact plan_do (by rfl) (plan_yield (i := 6) (V := fun _ _ v => v = (.bool true : Value)) (.bool true) (by go_simp) rfl hK)
    · intro a w' K hs' hdep hfr hK
      have e43 : a.tmps[43]?.getD undef = .bool true := hdep 6 (by decide) 43 rfl
      have f7 := hfr 7 (by decide)
      exact plan_do (wanted_of 6 43 true rfl rfl e43) (plan_yield (i := 7) (V := fun _ _ v => v = (.int .i64 0 : Value)) (.int .i64 0) (by go_simp) rfl hK)
    · intro a w' K hs' hdep hfr hK
      have e44 : a.tmps[44]?.getD undef = .int .i64 0 := hdep 7 (by decide) 44 rfl
      have e43 : a.tmps[43]?.getD undef = .bool true := hdep 6 (by decide) 43 rfl
      exact plan_do (wanted_of 6 43 true rfl rfl e43) (plan_yield (i := 8) (V := fun _ _ v => v = (.bool true : Value)) (.bool true) (by go_simp) rfl hK)
    · intro a w' K hs' hdep hfr hK
      have e43 : a.tmps[43]?.getD undef = .bool true := hdep 6 (by decide) 43 rfl
      have e45 : a.tmps[45]?.getD undef = .bool true := hdep 8 (by decide) 45 rfl
      exact plan_do (by rfl) (plan_yield (i := 9) (V := fun _ _ v => v = (.bool true : Value)) (.bool true) (by go_simp) rfl hK)
    · intro a w' K hs' hdep hfr hK
      have e46 : a.tmps[46]?.getD undef = .bool true := hdep 9 (by decide) 46 rfl
      have e43 : a.tmps[43]?.getD undef = .bool true := hdep 6 (by decide) 43 rfl
      exact plan_do (by rfl) (plan_yield (i := 10) (V := fun _ _ v => v = (.bool true : Value)) (.bool true) (by go_simp) rfl hK)
    · intro a w' K hs' hdep hfr hK
      have e47 : a.tmps[47]?.getD undef = .bool true := hdep 10 (by decide) 47 rfl
      have f := hfr 6 (by decide)
      exact plan_do (wanted_of 10 47 true rfl rfl e47) (wp_load_row 34 (.tmp 6) rfl B5 ((eval_tmp _ _).trans f) 34 s.cells.toArray (0, 0) _ (HVb.out.keep hs' (fun e => e)) Tryd.underlying34 rfl HI.out (hK _ _ (Keeps.refl _ _) rfl))
    · intro a w' K hs' hdep hfr hK
      have e47 : a.tmps[47]?.getD undef = .bool true := hdep 10 (by decide) 47 rfl
      have f := hfr 2 (by decide)
      exact plan_do (wanted_of 10 47 true rfl rfl e47) (wp_load_row 34 (.tmp 2) rfl B1 ((eval_tmp _ _).trans f) 34 s.cells.toArray (0, 0) _ (HXb.out.keep hs' (fun e => e)) Tryd.underlying34 rfl HI.out (hK _ _ (Keeps.refl _ _) rfl))
    · intro a w' K hs' hdep hfr hK
      have e48 : a.tmps[48]?.getD undef = supV s := hdep 11 (by decide) 48 rfl
      have e49 : a.tmps[49]?.getD undef = supV s := hdep 12 (by decide) 49 rfl
      have e47 : a.tmps[47]?.getD undef = .bool true := hdep 10 (by decide) 47 rfl
      exact plan_do (wanted_of 10 47 true rfl rfl e47) (plan_yield (i := 13) (V := fun _ _ v => v = .bool true) (.bool true) (exec_eql_is (.tmp 48) (.tmp 49) 34 _ rfl _ _ _ ((eval_tmp _ _).trans e48) ((eval_tmp _ _).trans e49) Tryd.supGuard (fun wz => by have h := sup_equal s s HS.out.head HS.out.head wz; simpa using h)) rfl hK)
    · intro a w' K hs' hdep hfr hK
      have e47 : a.tmps[47]?.getD undef = .bool true := hdep 10 (by decide) 47 rfl
      have e50 : a.tmps[50]?.getD undef = .bool true := hdep 13 (by decide) 50 rfl
      exact plan_do (by rfl) (plan_yield (i := 14) (V := fun _ _ v => v = (.bool true : Value)) (.bool true) (by go_simp) rfl hK)
    · intro a w' K hs' hdep hfr hK
      have e51 : a.tmps[51]?.getD undef = .bool true := hdep 14 (by decide) 51 rfl
      have e47 : a.tmps[47]?.getD undef = .bool true := hdep 10 (by decide) 47 rfl
      exact plan_do (by rfl) (plan_yield (i := 15) (V := fun _ _ v => v = (.bool true : Value)) (.bool true) (by go_simp) rfl hK)
    · intro a w' K hs' hdep hfr hK
      have e52 : a.tmps[52]?.getD undef = .bool true := hdep 15 (by decide) 52 rfl
      have f := hfr 9 (by decide)
      exact plan_do (wanted_of 15 52 true rfl rfl e52) (wp_load_row 34 (.tmp 9) rfl B8 ((eval_tmp _ _).trans f) 34 u.cells.toArray (0, 0) _ (HUb.out.keep hs' (fun e => e)) Tryd.underlying34 rfl HIU.out (hK _ _ (Keeps.refl _ _) rfl))
    · intro a w' K hs' hdep hfr hK
      have e52 : a.tmps[52]?.getD undef = .bool true := hdep 15 (by decide) 52 rfl
      have f := hfr 11 (by decide)
      exact plan_do (wanted_of 15 52 true rfl rfl e52) (wp_load_row 34 (.tmp 11) rfl Ba ((eval_tmp _ _).trans f) 34 u.cells.toArray (0, 0) _ (HYb.out.keep hs' (fun e => e)) Tryd.underlying34 rfl HIU.out (hK _ _ (Keeps.refl _ _) rfl))
    · intro a w' K hs' hdep hfr hK
      have e53 : a.tmps[53]?.getD undef = supV u := hdep 16 (by decide) 53 rfl
      have e54 : a.tmps[54]?.getD undef = supV u := hdep 17 (by decide) 54 rfl
      have e52 : a.tmps[52]?.getD undef = .bool true := hdep 15 (by decide) 52 rfl
      exact plan_do (wanted_of 15 52 true rfl rfl e52) (plan_yield (i := 18) (V := fun _ _ v => v = .bool true) (.bool true) (exec_eql_is (.tmp 53) (.tmp 54) 34 _ rfl _ _ _ ((eval_tmp _ _).trans e53) ((eval_tmp _ _).trans e54) Tryd.supGuard (fun wz => by have h := sup_equal u u HOK.out.head HOK.out.head wz; simpa using h)) rfl hK)
    · intro a w' K hs' hdep hfr hK
      have e52 : a.tmps[52]?.getD undef = .bool true := hdep 15 (by decide) 52 rfl
      have e55 : a.tmps[55]?.getD undef = .bool true := hdep 18 (by decide) 55 rfl
      exact plan_do (by rfl) (plan_yield (i := 19) (V := fun _ _ v => v = (.bool true : Value)) (.bool true) (by go_simp) rfl hK)
    · intro a w' K hs' hdep hfr hK
      have e56 : a.tmps[56]?.getD undef = .bool true := hdep 19 (by decide) 56 rfl
      have e52 : a.tmps[52]?.getD undef = .bool true := hdep 15 (by decide) 52 rfl
      exact plan_do (by rfl) (plan_yield (i := 20) (V := fun _ _ v => v = (.bool true : Value)) (.bool true) (by go_simp) rfl hK)
    · intro a w' K hs' hdep hfr hK
      have e57 : a.tmps[57]?.getD undef = .bool true := hdep 20 (by decide) 57 rfl
      have f10 := hfr 10 (by decide)
      exact plan_do (wanted_of 20 57 true rfl rfl e57) (plan_yield (i := 21) (V := fun _ _ v => v = (.int .i64 er : Value)) (.int .i64 er) (by go_simp) rfl hK)
    · intro a w' K hs' hdep hfr hK
      have e57 : a.tmps[57]?.getD undef = .bool true := hdep 20 (by decide) 57 rfl
      have f12 := hfr 12 (by decide)
      exact plan_do (wanted_of 20 57 true rfl rfl e57) (plan_yield (i := 22) (V := fun _ _ v => v = (.int .i64 er : Value)) (.int .i64 er) (by go_simp) rfl hK)
    · intro a w' K hs' hdep hfr hK
      have e58 : a.tmps[58]?.getD undef = .int .i64 er := hdep 21 (by decide) 58 rfl
      have e59 : a.tmps[59]?.getD undef = .int .i64 er := hdep 22 (by decide) 59 rfl
      have e57 : a.tmps[57]?.getD undef = .bool true := hdep 20 (by decide) 57 rfl
      exact plan_do (wanted_of 20 57 true rfl rfl e57) (plan_yield (i := 23) (V := fun _ _ v => v = (.bool true : Value)) (.bool true) (by go_simp) rfl hK)
    · intro a w' K hs' hdep hfr hK
      have e57 : a.tmps[57]?.getD undef = .bool true := hdep 20 (by decide) 57 rfl
      have e60 : a.tmps[60]?.getD undef = .bool true := hdep 23 (by decide) 60 rfl
      exact plan_do (by rfl) (plan_yield (i := 24) (V := fun _ _ v => v = (.bool true : Value)) (.bool true) (by go_simp) rfl hK)
    · intro a w' K hs' hdep hfr hK
      have e61 : a.tmps[61]?.getD undef = .bool true := hdep 24 (by decide) 61 rfl
      have e57 : a.tmps[57]?.getD undef = .bool true := hdep 20 (by decide) 57 rfl
      exact plan_do (by rfl) (plan_yield (i := 25) (V := fun _ _ v => v = (.bool true : Value)) (.bool true) (by go_simp) rfl hK)
    · intro a w' K hs' hdep hfr hK
      have e62 : a.tmps[62]?.getD undef = .bool true := hdep 25 (by decide) 62 rfl
      have f8 := hfr 8 (by decide)
      exact plan_do (wanted_of 25 62 true rfl rfl e62) (plan_yield (i := 26) (V := fun _ _ v => v = (.slice (some ⟨g7, 0, none⟩) rs.length c7 : Value)) (.slice (some ⟨g7, 0, none⟩) rs.length c7) (by go_simp) rfl hK)
    · intro a w' K hs' hdep hfr hK
      have e63 : a.tmps[63]?.getD undef = .slice (some ⟨g7, 0, none⟩) rs.length c7 := hdep 26 (by decide) 63 rfl
      have e62 : a.tmps[62]?.getD undef = .bool true := hdep 25 (by decide) 62 rfl
      have k := run_reads (HIb.out.same hs')
      exact plan_do (wanted_of 25 62 true rfl rfl e62) (plan_yield (i := 27) (V := fun _ _ v => v = (strV rs : Value)) (strV rs) (by go_simp) rfl hK)
    · intro a w' K hs' hdep hfr hK
      have e62 : a.tmps[62]?.getD undef = .bool true := hdep 25 (by decide) 62 rfl
      have f1 := hfr 1 (by decide)
      exact plan_do (wanted_of 25 62 true rfl rfl e62) (plan_yield (i := 28) (V := fun _ _ v => v = (.slice ao rs.length c : Value)) (.slice ao rs.length c) (by go_simp) rfl hK)
    · intro a w' K hs' hdep hfr hK
      have e65 : a.tmps[65]?.getD undef = .slice ao rs.length c := hdep 28 (by decide) 65 rfl
      have e62 : a.tmps[62]?.getD undef = .bool true := hdep 25 (by decide) 62 rfl
      have k := run_reads (HR.out.same (HKb.out.trans hs' (fun _ _ e => e)))
      exact plan_do (wanted_of 25 62 true rfl rfl e62) (plan_yield (i := 29) (V := fun _ _ v => v = (strV rs : Value)) (strV rs) (by go_simp) rfl hK)
    · intro a w' K hs' hdep hfr hK
      have e64 : a.tmps[64]?.getD undef = strV rs := hdep 27 (by decide) 64 rfl
      have e66 : a.tmps[66]?.getD undef = strV rs := hdep 29 (by decide) 66 rfl
      have e62 : a.tmps[62]?.getD undef = .bool true := hdep 25 (by decide) 62 rfl
      exact plan_do (wanted_of 25 62 true rfl rfl e62) (plan_yield (i := 30) (V := fun _ _ v => v = (.bool true : Value)) (.bool true) (by go_simp) rfl hK)
    · intro a w' K hs' hdep hfr hK
      have e62 : a.tmps[62]?.getD undef = .bool true := hdep 25 (by decide) 62 rfl
      have e67 : a.tmps[67]?.getD undef = .bool true := hdep 30 (by decide) 67 rfl
      exact plan_do (by rfl) (plan_yield (i := 31) (V := fun _ _ v => v = (.bool true : Value)) (.bool true) (by go_simp) rfl hK)
    · intro a w' K hs' hdep hfr hK
      have e68 : a.tmps[68]?.getD undef = .bool true := hdep 31 (by decide) 68 rfl
      have e62 : a.tmps[62]?.getD undef = .bool true := hdep 25 (by decide) 62 rfl
      have e37 : a.tmps[37]?.getD undef = .slice (some ⟨g3, 0, none⟩) 512 c3 := hdep 0 (by decide) 37 rfl
      exact plan_do (by rfl) (plan_yield (i := 32) (V := fun _ _ v => v = (.bool true : Value)) (.bool true) (by go_simp) rfl hK)
  · intro a w' hs' hdef hsz hv hfr
    have e4 : a.tmps[4]?.getD undef = .bool true := hv 32 4 rfl
    go_wp2
    refine bodyPost_ret (results_tmp (t := 4) rfl _ _ _) hdef ⟨?_, HKb.out.trans hs' (fun _ _ e => e)⟩
    rw [Array.getD_eq_getD_getElem?, e4]

end Go.Proofs.YtiddnhnfpggomaaDoor
