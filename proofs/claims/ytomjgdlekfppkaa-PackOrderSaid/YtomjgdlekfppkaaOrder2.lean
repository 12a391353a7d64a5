/- The walk of PackOrder where both numbers fit. -/
import Derived.Test.YtomjgdlekfppkaaOrder
import Derived.Deep.RegionWith
namespace Go.Proofs.Ytomjgdlekfppkaa
open Go.RowKit
set_option linter.unusedVariables false

set_option maxRecDepth 100000 in
set_option maxHeartbeats 3200000 in
theorem order_both (a b size : Nat) (h1 : 1 ≤ size) (h8 : size ≤ 8) (w : World) (ha : a < 256 ^ size) (hb : b < 256 ^ size) :
    Calls Try.prog 6 #[.int .u64 a, .int .u64 b, .int .i64 size] w fun e w' => e = .returned (.bool true) ∧ Same w w' := by
  have HL : Hid (decide (a < b) = Op.bytesLess (be a size) (be b size)) := Lib.hid (be_less a b size ha hb).symm
  have HE : Hid (be a size = be b size ↔ a = b) := Lib.hid (be_inj a b size ha hb)
  go_enter Try.func6, Try.ntmps6
  go_wp2_with fail
  ((with_reducible refine (speaks_ok _).mono ?_); rintro e w1 ⟨rfl, hk1⟩)
  have HK := Lib.hid hk1
  have HP : Hid (∀ o, Pen 28 5 ((w1.alloc (.cells #[.slice none 0 0] 28)).alloc o) w1.heap.size (w1.heap.size + 1 + 1) none []) := Lib.hid fun o => (Pen.new2 _ _ w1 o)
  clear hk1
  go_wp2_with fail
  ((with_reducible refine (uint_ok' w1.heap.size (w1.heap.size + 1 + 1) none [] a size _ _ _ (HP.out _) (by simp) h1 (by omega) ha (by omega) (by omega)).mono ?_); rintro e w2 ⟨rfl, hs⟩)
  obtain ⟨row2, hp2, hk2, hm2⟩ := hs.ex
  have HP2 := Lib.hid hp2
  have HK2 := Lib.hid hk2
  have HY : Hid (Pen 28 5 w2 (w1.heap.size + 1) (w1.heap.size + 1 + 1) none []) := Lib.hid ((Pen.newAt _ _ w1 _).keeps hk2 (notPen (by omega) (by simp)) (fun _ e => by simp at e))
  clear hs hp2 hk2 hm2
  go_wp2_with fail
  ((with_reducible refine (uint_ok' (w1.heap.size + 1) (w1.heap.size + 1 + 1) none [] b size _ _ _ HY.out (by simp) h1 (by omega) hb (by omega) (by omega)).mono ?_); rintro e w3 ⟨rfl, hs⟩)
  obtain ⟨row3, hp3, hk3, hm3⟩ := hs.ex
  have HP3 := Lib.hid hp3
  have HK3 := Lib.hid hk3
  have HX : Hid (Pen 28 5 w3 w1.heap.size (w1.heap.size + 1 + 1) row2 ([] ++ be a size)) := Lib.hid (HP2.out.keeps hk3 (notPen (by omega) (by simp)) (fun j e => notPen (by have := (HP2.out.row_lt j e).1; omega) (by simp)))
  clear hs hp3 hk3 hm3 ha hb
  go_wp2_with fail
  go_region_with (first
    | ((with_reducible refine (data_any w1.heap.size _ _ _ _ (HX.out.keeps (Keeps.refl (fun _ => False) w3).drew (fun e => e) (fun _ _ e => e)) (by simp [be_length]; omega)).mono ?_); rintro e w4 ⟨v1, rfl, ho1, hk4⟩
       have hc1 := run_string_own (P := Try.prog) 26 9 5 ho1 Try.underlying26 Try.underlying5 Try.underlying9
       have HO1 := Lib.hid ho1
       have HK4 : Hid (Same w3.drew w4) := Lib.hid hk4
       clear ho1 hk4)
    | ((with_reducible refine (data_any (w1.heap.size + 1) _ _ _ _ (HP3.out.keeps ((Keeps.refl (fun _ => False) w3).drew.trans (Hid.out (by assumption : Hid (Same w3.drew _))) (fun _ _ e => e)) (fun e => e) (fun _ _ e => e)) (by simp [be_length]; omega)).mono ?_); rintro e w5 ⟨v2, rfl, ho2, hk5⟩
       have hc2 := run_string_own (P := Try.prog) 26 9 5 ho2 Try.underlying26 Try.underlying5 Try.underlying9
       have hc3 := run_string (P := Try.prog) ((Bytes.of_own HO1.out).same hk5) 26 9 5 Try.underlying26 Try.underlying5 Try.underlying9 (own_spot HO1.out)
       have HK5 := Lib.hid hk5
       clear ho2 hk5))
  all_goals
    go_wp2
    all_goals first
      | exact absurd HL.out (by assumption)
      | exact absurd (congrArg Int.ofNat (be_length a size)) (by assumption)
      | (go_ret
         refine ⟨?_, ?_⟩
         · have e : (((a : Int) == b) == (be a size == be b size)) = true := by
             rw [beq_iff_eq, Bool.eq_iff_iff, beq_iff_eq, beq_iff_eq, HE.out]; omega
           rw [e]; rfl
         · refine ((((((HK.out.alloc _).alloc _).trans HK2.out ?_).trans HK3.out ?_).drew).trans HK4.out (fun _ _ e => e)).trans HK5.out (fun _ _ e => e)
           · intro j hj
             exact notPen (by have := HK.out.size; omega) (by simp)
           · intro j hj
             exact notPen (by have := HK.out.size; omega) (by simp))

end Go.Proofs.Ytomjgdlekfppkaa
