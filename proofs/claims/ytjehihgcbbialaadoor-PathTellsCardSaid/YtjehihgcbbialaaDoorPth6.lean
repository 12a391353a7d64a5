/- The document's examples of paths. -/
import Derived.Test.YtjehihgcbbialaaDoorPth5
namespace Go.Proofs.YtjehihgcbbialaaDoor
open Go.RowKit
set_option linter.unusedVariables false

theorem two_strs (w : World) (x y : ByteArray) (t : TypeId) : Strs (w.alloc (.cells #[.string x, .string y] t)) (.slice (some ⟨w.heap.size, 0, none⟩) 2 2) [x, y] := by
  refine .inl ⟨⟨w.heap.size, 0, none⟩, 2, rfl, fun j s hj => ?_⟩
  rw [Addr.add_mid, Nat.zero_add, cell_of_row _ _ _ _ _ _ (heap_alloc_new w _)]
  match j with
  | 0 => simpa using hj
  | 1 => simpa using hj
  | j + 2 => simp at hj

set_option maxRecDepth 100000 in
set_option maxHeartbeats 3200000 in
theorem speaks9 (w : World) (he : Env w) : Calls Tryd.prog 7 #[] w fun e w' => e = .returned (.bool true) ∧ Same w w' := by
  have e1 : nl (sb ⟨#[47, 97, 47, 98, 99]⟩) = [[97], [98, 99]] := by decide
  have e2 : bsA (parentB (sb ⟨#[47, 97, 47, 98, 99]⟩)) = ⟨#[47, 97]⟩ := by decide
  have e3 : bsA (baseB (sb ⟨#[47, 97, 47, 98, 99]⟩)) = ⟨#[98, 99]⟩ := by decide
  have e4 : (upsOf [[97], [98, 99]]).map bsA = [⟨#[47]⟩, ⟨#[47, 97]⟩] := by decide
  have e5 : withinB (sb ⟨#[47, 97]⟩) (sb ⟨#[47, 97, 98]⟩) = false := by decide
  have H1 := Lib.hid (fun w he => pathSplit_any ⟨#[47, 97, 47, 98, 99]⟩ w he)
  have H2 := Lib.hid (fun w he => parent_any ⟨#[47, 97, 47, 98, 99]⟩ w he)
  have H3 := Lib.hid (fun w he => base_any ⟨#[47, 97, 47, 98, 99]⟩ w he)
  have H4 := Lib.hid (fun w he => ancestors_any ⟨#[47, 97, 47, 98, 99]⟩ w he)
  have H5 := Lib.hid (fun w he => within_any ⟨#[47, 97]⟩ ⟨#[47, 97, 98]⟩ w he)
  rw [e1] at H1 H4
  rw [e2] at H2
  rw [e3] at H3
  rw [e5] at H5
  unfold UpsPost at H4
  rw [e4, show (upsOf [[97], [98, 99]]).length = 2 from rfl] at H4
  have HE := Lib.hid he
  clear e1 e2 e3 e4 e5 he
  go_enter Tryd.func7, Tryd.ntmps7
  go_wp2_with fail
  ((with_reducible refine (H1.out _ HE.out).mono ?_); rintro e w1 ⟨ao, rfl, hst, ha, hk1⟩)
  have HB := Lib.hid (two_strs w1 ⟨#[97]⟩ ⟨#[98, 99]⟩ 9)
  have HK1 := Lib.hid (hk1.alloc (.cells #[.string ⟨#[97]⟩, .string ⟨#[98, 99]⟩] 9))
  have HST := Lib.hid (hst.same ((Keeps.refl (fun _ => False) w1).alloc (.cells #[.string ⟨#[97]⟩, .string ⟨#[98, 99]⟩] 9)))
  clear hst ha hk1
  go_wp2_with fail
  ((with_reducible refine (same_any ao _ 2 2 2 2 _ _ _ HST.out HB.out rfl rfl (by omega) (by omega)).mono ?_); rintro e w2 ⟨rfl, hk2⟩)
  have HK2 := Lib.hid (HK1.out.trans hk2 (fun _ _ e => e))
  have HE2 := Lib.hid (HE.out.same HK2.out)
  rw [decide_eq_true (show List.map bsA [[97], [98, 99]] = [⟨#[97]⟩, ⟨#[98, 99]⟩] from rfl)]
  clear hk2
  go_wp2_with fail
  ((with_reducible refine (H2.out _ HE2.out).mono ?_); rintro e w3 ⟨rfl, hk3⟩)
  have HK3 := Lib.hid (HK2.out.trans hk3 (fun _ _ e => e))
  have HE3 := Lib.hid (HE.out.same HK3.out)
  clear hk3
  go_wp2_with fail
  ((with_reducible refine (H3.out _ HE3.out).mono ?_); rintro e w4 ⟨rfl, hk4⟩)
  have HK4 := Lib.hid (HK3.out.trans hk4 (fun _ _ e => e))
  have HE4 := Lib.hid (HE.out.same HK4.out)
  clear hk4
  go_wp2_with fail
  ((with_reducible refine (H4.out _ HE4.out).mono ?_); rintro e w5 ⟨bo, c5, rfl, hst, hk5⟩)
  have HB5 := Lib.hid (two_strs w5 ⟨#[47]⟩ ⟨#[47, 97]⟩ 9)
  have HK5 := Lib.hid (HK4.out.trans (hk5.alloc (.cells #[.string ⟨#[47]⟩, .string ⟨#[47, 97]⟩] 9)) (fun _ _ e => e))
  have HST5 := Lib.hid (hst.same ((Keeps.refl (fun _ => False) w5).alloc (.cells #[.string ⟨#[47]⟩, .string ⟨#[47, 97]⟩] 9)))
  clear hst hk5
  go_wp2_with fail
  ((with_reducible refine (same_any bo _ 2 2 c5 2 _ _ _ HST5.out HB5.out rfl rfl (by omega) (by omega)).mono ?_); rintro e w6 ⟨rfl, hk6⟩)
  have HK6 := Lib.hid (HK5.out.trans hk6 (fun _ _ e => e))
  have HE6 := Lib.hid (HE.out.same HK6.out)
  rw [decide_eq_true rfl]
  clear hk6
  go_wp2_with fail
  ((with_reducible refine (H5.out _ HE6.out).mono ?_); rintro e w7 ⟨rfl, hk7⟩)
  have HK7 := Lib.hid (HK6.out.trans hk7 (fun _ _ e => e))
  clear hk7
  go_wp2
  go_ret
  exact ⟨rfl, HK7.out⟩
end Go.Proofs.YtjehihgcbbialaaDoor
