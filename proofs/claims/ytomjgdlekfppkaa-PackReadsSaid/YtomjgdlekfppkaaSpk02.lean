/- The examples that all laws of layer 2 begin with. -/
import Derived.Test.YtomjgdlekfppkaaPack3
import Derived.Lib.SlBytesConst
namespace Go.Proofs.Ytomjgdlekfppkaa
open Go.RowKit

set_option maxRecDepth 100000 in
set_option maxHeartbeats 1600000 in
theorem speaks_ok (w : World) : Calls Try.prog 8 #[] w fun e w' => e = .returned (.bool true) ∧ Same w w' := by
  have kc := fun (w : World) (C : Array Value) (n c : Nat) => Lib.run_convert_bytes_const (P := Try.prog) w 26 5 C n c Try.underlying26 Try.underlying5
  go_enter Try.func8, Try.ntmps8
  go_wp2_with fail
  ((with_reducible refine (uint_ok' w.heap.size (w.heap.size + 1) none [] 258 3 258 3 _ (Pen.new _ _ w) (by simp) (by omega) (by omega) (by omega) (by omega) (by omega)).mono ?_); rintro e w1 ⟨rfl, hs⟩)
  obtain ⟨row1, hp1, hk1, hm1⟩ := hs.ex
  have hz1 := hk1.size
  have HP := Lib.hid hp1
  have HK := Lib.hid hk1
  have HM := Lib.hid hm1
  have hpa : ∀ o, Pen 28 5 (w1.alloc o) w.heap.size (w.heap.size + 1) row1 ([] ++ be 258 3) := fun o => hp1.keeps ((Keeps.refl (fun _ => False) _).alloc o) (fun e => e) (fun _ _ e => e)
  have hxx : Bytes (w1.alloc (.cells #[.int .u8 97, .int .u8 98] 5 (2, 3))) (.slice (some ⟨w1.heap.size, 0, none⟩) 2 2) [97, 98] := Bytes.of_block (heap_alloc_new w1 _) rfl 2 2 rfl
  have hxs : ∀ a n c, Value.slice (some ⟨w1.heap.size, 0, none⟩) 2 2 = .slice (some a) n c → ([97, 98] : List UInt8) ≠ [] → a.block ≠ w.heap.size ∧ row1 ≠ some a.block := by
    intro a n c ha _
    simp only [Value.slice.injEq, Option.some.injEq] at ha
    obtain ⟨rfl, _, _⟩ := ha
    simp at hz1
    refine ⟨by simp; omega, fun e => ?_⟩
    have := (hp1.row_lt _ e).2
    simp at this
  have HPA := Lib.hid hpa
  have HX := Lib.hid hxx
  have HXS := Lib.hid hxs
  clear hs hp1 hk1 hm1 hpa hxx hxs
  go_wp2_with fail
  ((with_reducible refine (text_ok w.heap.size (w.heap.size + 1) row1 ([] ++ be 258 3) [97, 98] (.slice (some ⟨w1.heap.size, 0, none⟩) 2 2) (w1.alloc (.cells #[.int .u8 97, .int .u8 98] 5 (2, 3))) (HPA.out _) HX.out (by simp) HXS.out (by simp [be_length])).mono ?_); rintro e w2 ⟨rfl, hs⟩)
  obtain ⟨row2, hp2, hk2, hm2⟩ := hs.ex
  have hbs : ([] ++ be 258 3) ++ (be [(97 : UInt8), 98].length 2 ++ [97, 98]) = [0, 1, 2, 0, 2, 97, 98] := by decide +kernel
  rw [hbs] at hp2
  have HP2 := Lib.hid hp2
  have HK2 := Lib.hid hk2
  clear hs hp2 hk2 hm2 hbs
  go_wp2_with fail
  ((with_reducible refine (data_any _ _ _ _ _ HP2.out (by simp)).mono ?_); rintro e w3 ⟨v, rfl, hown, hk3⟩)
  have hcv := run_string_own (P := Try.prog) 26 9 5 hown Try.underlying26 Try.underlying5 Try.underlying9
  have HK3 := Lib.hid hk3
  clear hown hk3
  go_wp2
  go_ret
  refine ⟨rfl, (((((Keeps.refl _ w).alloc _).trans HK.out ?_).alloc _).trans HK2.out ?_).trans HK3.out (fun _ _ e => e)⟩
  · rintro j hj (e | e)
    · omega
    · simp at e
  · rintro j hj (e | e)
    · omega
    · have := (HP.out.row_lt j e).1; omega

end Go.Proofs.Ytomjgdlekfppkaa
