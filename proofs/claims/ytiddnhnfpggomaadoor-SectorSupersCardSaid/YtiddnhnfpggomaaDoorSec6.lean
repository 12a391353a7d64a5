/- The walks of SectorWraps and SectorApart. -/
import Derived.Test.YtiddnhnfpggomaaDoorSec5
namespace Go.Proofs.YtiddnhnfpggomaaDoor
open Go.RowKit
set_option linter.unusedVariables false

set_option maxRecDepth 100000 in
set_option maxHeartbeats 12800000 in
theorem wraps_any (ao bo : Option Addr) (c d : Nat) (bs rs : List UInt8) (w : World) (hN : Nums w) (hb : Bytes w (.slice ao bs.length c) bs) (hr : Bytes w (.slice bo rs.length d) rs)
    (hsa : ∀ x, ao = some x → bs ≠ [] → x.spot = none) (hsb : ∀ x, bo = some x → rs ≠ [] → x.spot = none) (hc : bs.length ≤ c) (hd : rs.length ≤ d) (hl : bs.length ≤ 140737488351232) (hm : rs.length ≤ 140737488351232) :
    Calls Tryd.prog 3 #[.slice ao bs.length c, .slice bo rs.length d] w fun e w' => e = .returned (.bool true) ∧ Same w w' := by
  obtain ⟨i0, hi0, hz0, hz1, hz2⟩ := info_parts (show (Tryd.prog.info? 5).map (fun i => (i.zero, i.size, i.bytes)) = some (some (.int .u8 0), 1, 1) from by kernel_rfl)
  have HN := Lib.hid hN
  have HA : Hid (Reads w (.slice ao bs.length c) bs) := Lib.hid ⟨ao, c, rfl, hb, hsa, hc⟩
  have HR : Hid (Reads w (.slice bo rs.length d) rs) := Lib.hid ⟨bo, d, rfl, hr, hsb, hd⟩
  have HB := Lib.hid hb
  have HC := Lib.hid hr
  clear hN hb hr hsa hsb
  go_enter Tryd.func3, Tryd.ntmps3
  go_wp2_with fail
  ((with_reducible refine (speaks04 _ HN.out).mono ?_); rintro e w1 ⟨rfl, hk1⟩)
  have HK1 := Lib.hid hk1
  have HOE := Lib.hid (own_empty w1 5)
  have HBE : Hid (Bytes (w1.alloc (.cells #[] 5)) (.slice ao bs.length c) bs) := Lib.hid (HB.out.same (hk1.alloc _))
  clear hk1
  go_wp2_with (at_builtin; refine wpList_append_bytes (by rfl) _ _ 22 5 i0 (by rfl) Tryd.underlying22 hi0 hz0 hz1 hz2 w1.heap.size w1.heap.size 0 [] bs _ (by rfl) (by rfl) HOE.out HBE.out (by simp; omega) (by simp) ?_)
  intro g2 c2 w2 ho2 hg2 hat2
  try simp only [List.length_nil, Nat.zero_add, List.nil_append] at ho2
  try simp only [List.length_nil, Nat.zero_add]
  have hs1 := HK1.out.size
  have HK2 : Hid (Same w w2) := Lib.hid ((HK1.out.alloc _).grown hg2 (fun k e hk => by simp only [Option.some.injEq] at e; omega))
  have HI2 : Hid (Reads w2 (.slice (some ⟨g2, 0, none⟩) bs.length c2) bs) := Lib.hid (Reads.of_own ho2 rfl)
  clear ho2 hg2 hat2 HOE HBE
  have HOE := Lib.hid (own_empty w2 5)
  have HBE : Hid (Bytes (w2.alloc (.cells #[] 5)) (.slice bo rs.length d) rs) := Lib.hid (HC.out.same (HK2.out.alloc _))
  go_wp2_with (at_builtin; refine wpList_append_bytes (by rfl) _ _ 22 5 i0 (by rfl) Tryd.underlying22 hi0 hz0 hz1 hz2 w2.heap.size w2.heap.size 0 [] rs _ (by rfl) (by rfl) HOE.out HBE.out (by simp; omega) (by simp) ?_)
  intro g3 c3 w3 ho3 hg3 hat3
  try simp only [List.length_nil, Nat.zero_add, List.nil_append] at ho3
  try simp only [List.length_nil, Nat.zero_add]
  have hk23 : Same w2 w3 := ((Keeps.refl (fun _ => False) w2).alloc _).grown hg3 (fun k e hk => by simp only [Option.some.injEq] at e; omega)
  have HK3 : Hid (Same w w3) := Lib.hid (HK2.out.trans hk23 (fun _ _ e => e))
  have HI3 : Hid (Reads w3 (.slice (some ⟨g2, 0, none⟩) bs.length c2) bs) := Lib.hid (HI2.out.same hk23)
  have HO3 : Hid (Reads w3 (.slice (some ⟨g3, 0, none⟩) rs.length c3) rs) := Lib.hid (Reads.of_own ho3 rfl)
  have hc3 : rs.length ≤ c3 := by
    obtain ⟨_, _, e, _, _, h⟩ := HO3.out
    simp only [Value.slice.injEq] at e; omega
  have HIB3 : Hid (Bytes w3 (.slice (some ⟨g2, 0, none⟩) bs.length c2) bs) := Lib.hid (by obtain ⟨_, _, _, h, _⟩ := HI3.out; exact h)
  clear ho3 hg3 hat3 HOE HBE hk23 HK2 HI2
  go_wp2_with fail
  ((with_reducible refine (wrap_out _ bs.length c2 bs _ rfl HIB3.out).mono ?_); rintro e w4 ⟨hk4, v4, rfl, hr4⟩)
  have HK4 : Hid (Same w w4) := Lib.hid (HK3.out.trans hk4 (fun _ _ e => e))
  have HI4 := Lib.hid (HI3.out.same hk4)
  have HO4 := Lib.hid (HO3.out.same hk4)
  have HW4 := Lib.hid hr4
  clear hk4 hr4 HK3 HI3 HO3 HIB3
  go_wp2_with fail
  ((with_reducible refine (rwrap_out _ bs.length c bs _ rfl (HB.out.same HK4.out)).mono ?_); rintro e w5 ⟨hk5, v5, rfl, hr5⟩)
  have HK5 : Hid (Same w w5) := Lib.hid (HK4.out.trans hk5 (fun _ _ e => e))
  have HI5 := Lib.hid (HI4.out.same hk5)
  have HO5 := Lib.hid (HO4.out.same hk5)
  have HW5 := Lib.hid (HW4.out.same hk5)
  have HV5 := Lib.hid hr5
  have HOB5 : Hid (Bytes w5 (.slice (some ⟨g3, 0, none⟩) rs.length c3) rs) := Lib.hid (by obtain ⟨_, _, _, h, _⟩ := HO5.out; exact h)
  clear hk5 hr5 HK4 HI4 HO4 HW4
  go_wp2_with fail
  ((with_reducible refine (unwrap_out _ rs.length c3 rs _ rfl HOB5.out (fun x e _ => by cases e; rfl) hc3 hm (fun e => by simp at e)).mono ?_); rintro e w6 ⟨hk6, v6, b6, e6, rfl, hr6, hu6⟩)
  have HK6 : Hid (Same w w6) := Lib.hid (HK5.out.trans hk6 (fun _ _ e => e))
  have HI6 := Lib.hid (HI5.out.same hk6)
  have HO6 := Lib.hid (HO5.out.same hk6)
  have HW6 := Lib.hid (HW5.out.same hk6)
  have HV6 := Lib.hid (HV5.out.same hk6)
  have HB6 := Lib.hid hr6
  have HU6 := Lib.hid hu6
  clear hk6 hr6 hu6 HK5 HI5 HO5 HW5 HV5 HOB5
  go_wp2_with fail
  ((with_reducible refine (runwrap_out _ rs.length d rs _ rfl (HC.out.same HK6.out) hd hm).mono ?_); rintro e w7 ⟨hk7, v7, b7, e7, rfl, hr7, hu7⟩)
  obtain ⟨rfl, rfl⟩ := hu7.unique HU6.out
  have HK7 : Hid (Same w w7) := Lib.hid (HK6.out.trans hk7 (fun _ _ e => e))
  have k1 := run_reads (HI6.out.same hk7)
  have k2 := run_reads (HO6.out.same hk7)
  have k3 := run_reads (HW6.out.same hk7)
  have k4 := run_reads (HV6.out.same hk7)
  have k5 := run_reads (HB6.out.same hk7)
  have k6 := run_reads hr7
  have k7 := run_reads (HA.out.same HK7.out)
  have k8 := run_reads (HR.out.same HK7.out)
  have HW7 := Lib.hid (HW6.out.same hk7)
  clear hk7 hr7 hu7 HK6 HI6 HO6 HW6 HV6 HB6 HU6
  obtain ⟨err, herr⟩ : ∃ err, wrapErr bs = err := ⟨_, rfl⟩
  obtain ⟨out, hout⟩ : ∃ out, wrapOut bs = out := ⟨_, rfl⟩
  rw [herr]
  rw [hout] at k3 k4 HW7
  by_cases q : bs.length ≤ 470
  · have hz : err = 0 := by rw [← herr, wrapErr, if_pos q]
    subst hz
    have HOUT : Hid (out = wrapB bs) := Lib.hid (by rw [← hout, wrapOut, if_pos q])
    clear herr hout
    go_wp2_with fail
    rw [HOUT.out] at HW7
    ((with_reducible refine (unwrap_reads v4 (wrapB bs) _ HW7.out (wrapB_ne bs q) (by rw [wrapB_length bs q]; omega)).mono ?_); rintro e w8 ⟨hk8, v8, b8, e8, rfl, hr8, hu8⟩)
    obtain ⟨rfl, rfl⟩ := hu8.unique (.inl ⟨⟨q, rfl⟩, rfl⟩)
    have HK8 : Hid (Same w w8) := Lib.hid (HK7.out.trans hk8 (fun _ _ e => e))
    clear k1 k2 k3 k4 k5 k6 k7 k8
    have k1 := run_reads hr8
    have k2 := run_reads (HA.out.same HK8.out)
    clear hk8 hr8 hu8
    go_wp2
    go_ret
    exact ⟨rfl, HK8.out⟩
  · have hz : err = 23 := by rw [← herr, wrapErr, if_neg q]
    subst hz
    clear herr hout
    go_wp2
    go_ret
    exact ⟨rfl, HK7.out⟩

set_option maxRecDepth 100000 in
set_option maxHeartbeats 12800000 in
theorem apart_any (ao : Option Addr) (c : Nat) (bs : List UInt8) (s : Sup) (hs : s.Ok) (w : World) (hN : Nums w) (hb : Bytes w (.slice ao bs.length c) bs) :
    Calls Tryd.prog 6 #[.slice ao bs.length c, .agg s.cells.toArray] w fun e w' => e = .returned (.bool true) ∧ Same w w' := by
  have HN := Lib.hid hN
  have HB := Lib.hid hb
  have HS := Lib.hid hs
  have HI := Lib.hid (Tryd.sizeSup s hs.head)
  have HX : Hid (Whole (w.alloc (.cells s.cells.toArray 34)) w.heap.size 34 s.cells) := Lib.hid (heap_alloc_new w _)
  have HK0 : Hid (Same w (w.alloc (.cells s.cells.toArray 34))) := Lib.hid ((Keeps.refl _ _).alloc _)
  obtain ⟨w0, hw0⟩ : ∃ w0, w.alloc (.cells s.cells.toArray 34) = w0 := ⟨_, rfl⟩
  rw [hw0] at HX HK0
  clear hN hb hs
  go_enter Tryd.func6, Tryd.ntmps6
  go_wp2_with fail
  ((with_reducible refine (speaks04 _ (HN.out.keep HK0.out (fun e => e))).mono ?_); rintro e w1 ⟨rfl, hk1⟩)
  have HK1 : Hid (Same w w1) := Lib.hid (HK0.out.trans hk1 (fun _ _ e => e))
  have HX1 := Lib.hid (HX.out.keep hk1 (fun e => e))
  clear hk1 HX HK0 hw0
  go_wp2_with fail
  ((with_reducible refine (wrap_out _ bs.length c bs _ rfl (HB.out.same HK1.out)).mono ?_); rintro e w2 ⟨hk2, v2, rfl, hr2⟩)
  have HK2 : Hid (Same w w2) := Lib.hid (HK1.out.trans hk2 (fun _ _ e => e))
  have HX2 := Lib.hid (HX1.out.keep hk2 (fun e => e))
  have HW2 := Lib.hid hr2
  clear hk2 hr2 HK1 HX1
  go_wp2_with (refine wpList_load_row (by rfl) 34 _ (by rfl) w.heap.size (by rfl) 34 s.cells.toArray (0, 0) _ HX2.out Tryd.underlying34 rfl HI.out ?_)
  ((with_reducible refine (super_out s HS.out _ (HN.out.keep HK2.out (fun e => e))).mono ?_); rintro e w3 ⟨hk3, g3, c3, rfl, hr3⟩)
  have HK3 : Hid (Same w w3) := Lib.hid (HK2.out.trans hk3 (fun _ _ e => e))
  have HW3 := Lib.hid (HW2.out.same hk3)
  have HS3 := Lib.hid hr3
  clear hk3 hr3 HK2 HX2 HW2
  go_wp2_with fail
  ((with_reducible refine (unwrap_reads _ (superB s) _ HS3.out (superB_ne s HS.out) (by rw [superB_length s HS.out]; omega)).mono ?_); rintro e w4 ⟨hk4, v4, b4, e4, rfl, -, hu4⟩)
  obtain ⟨-, rfl⟩ := hu4.unique (.inr ⟨noWrap _ (by rw [List.getD_eq_getElem?_getD, superB_zero s]; decide), rfl, rfl⟩)
  have HK4 : Hid (Same w w4) := Lib.hid (HK3.out.trans hk4 (fun _ _ e => e))
  have HW4 := Lib.hid (HW3.out.same hk4)
  clear hk4 hu4 HK3 HW3 HS3
  obtain ⟨err, herr⟩ : ∃ err, wrapErr bs = err := ⟨_, rfl⟩
  rw [herr]
  by_cases q : bs.length ≤ 470
  · have hz : err = 0 := by rw [← herr, wrapErr, if_pos q]
    subst hz
    rw [wrapOut, if_pos q] at HW4
    clear herr
    go_wp2_with fail
    ((with_reducible refine (readSuper_reads v2 (wrapB bs) _ (HN.out.keep HK4.out (fun e => e)) HW4.out (wrapB_ne bs q) (by rw [wrapB_length bs q]; omega)).mono ?_); rintro e w5 ⟨hk5, s5, e5, rfl, hu5⟩)
    obtain ⟨rfl, rfl⟩ := hu5.unique (.inr ⟨fun t ht e => by
      have h0 := superB_zero t
      rw [← e] at h0
      obtain ⟨h1, _⟩ := wrapB_at bs q
      rw [h1] at h0
      simp at h0, rfl, rfl⟩)
    have HK5 : Hid (Same w w5) := Lib.hid (HK4.out.trans hk5 (fun _ _ e => e))
    obtain ⟨ao5, c5, rfl, -, -, -⟩ := HW4.out
    have hwl := wrapB_length bs q
    rw [hwl]
    clear hk5 hu5 HK4 HW4 hwl
    have hzs := Tryd.zeroSup
    have HI6 := Lib.hid (Tryd.sizeSup sup0 (by simp [sup0]))
    have HN6 : Hid ((w5.alloc (.cells sup0.cells.toArray 34)).heap[w5.heap.size]? = some (.cells sup0.cells.toArray 34 (0, 0))) := Lib.hid (heap_alloc_new w5 _)
    obtain ⟨w6, hw6⟩ : ∃ w6, (w5.alloc (.cells sup0.cells.toArray 34)).setRow w5.heap.size sup0.cells.toArray = w6 := ⟨_, rfl⟩
    have HW6 := Lib.hid hw6
    have HK6 : Hid (Same w w6) := Lib.hid (HK5.out.trans (by rw [← hw6]; exact ((Keeps.refl (fun _ => False) _).alloc _).setRow _ _ (.inl (Nat.le_refl _))) (fun _ _ e => e))
    clear hw6
    go_wp2_with (first
      | (refine wpList_store_row (by rfl) 34 _ _ (by rfl) w5.heap.size sup0.cells.toArray (by rfl) (by rfl) 34 sup0.cells.toArray HN6.out HI6.out rfl (sup_all _) ?_; rw [HW6.out]))
    go_ret
    exact ⟨rfl, HK6.out⟩
  · have hz : err = 23 := by rw [← herr, wrapErr, if_neg q]
    subst hz
    rw [wrapOut, if_neg q] at HW4
    obtain ⟨ao5, c5, rfl, -, -, -⟩ := HW4.out
    have hq : (470 : Int) < (bs.length : Int) := by omega
    clear herr HW4
    go_wp2
    go_ret
    exact ⟨rfl, HK4.out⟩

end Go.Proofs.YtiddnhnfpggomaaDoor
