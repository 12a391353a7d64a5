/- The walk of OperNames: the zero answer is written as seven noughts. -/
import Derived.Test.YtafgiljgefeefaaDoorPack3
namespace Go.Proofs.YtafgiljgefeefaaDoor
open Go.RowKit
set_option linter.unusedVariables false

set_option maxRecDepth 100000 in
set_option maxHeartbeats 1600000 in
theorem rightAnswer_zero (w : World) :
    Calls Tryd.prog 52 #[.agg #[.int .i64 0, .int .i64 0, .slice none 0 0, .slice none 0 0]] w fun e w' => e = .returned (.bool true) ∧ Same w w' := by
  go_enter Tryd.func52, Tryd.ntmps52
  go_wp2
  refine wp_loop_rounds 1 ?_
  rw [rounds_succ]
  go_wp2
  go_ret
  exact ⟨rfl, (Keeps.refl _ _).alloc _⟩

set_option maxRecDepth 100000 in
set_option maxHeartbeats 1600000 in
theorem writeAnswer_zero (w : World) :
    Calls Tryd.prog 35 #[.agg #[.int .i64 0, .int .i64 0, .slice none 0 0, .slice none 0 0]] w fun e w' => ∃ v, e = .returned (.tuple #[v, .int .i64 0]) ∧ w'.ownsRow w.heap.size 5 1 v 7 (u8s [0, 0, 0, 0, 0, 0, 0]) ∧ Same w w' := by
  go_enter Tryd.func35, Tryd.ntmps35
  go_wp2_with fail
  ((with_reducible refine (rightAnswer_zero _).mono ?_); rintro e w1 ⟨rfl, hk1⟩)
  have hb1 : w1.heap[w.heap.size]? = some (.cells #[.int .i64 0, .int .i64 0, .slice none 0 0, .slice none 0 0] 41 (0, 0)) := hk1.obj (heap_alloc_new w _) (fun e => e)
  obtain ⟨a0, a1, a2, a3⟩ := cell_of_four hb1
  have HB1 := Lib.hid hb1
  have HK1 := Lib.hid hk1
  have hz1 : w.heap.size < w1.heap.size := by have := hk1.size; simp only [World.size_alloc] at this; omega
  clear hb1 hk1
  go_wp2_with fail
  ((with_reducible refine (uint_ok' w1.heap.size (w1.heap.size + 1) none [] 0 2 0 2 _ (Pen.new _ _ w1) (by simp) (by omega) (by omega) (by omega) (by omega) (by omega)).mono ?_); rintro e w2 ⟨rfl, hs⟩)
  obtain ⟨row2, hp2, hk2, hm2⟩ := hs.ex
  have hb2 : w2.heap[w.heap.size]? = some (.cells #[.int .i64 0, .int .i64 0, .slice none 0 0, .slice none 0 0] 41 (0, 0)) := hk2.obj (((Keeps.refl (fun _ => False) _).alloc _).obj HB1.out (fun e => e)) (notPen (by omega) (by simp))
  clear a0 a1 a2 a3
  obtain ⟨a0, a1, a2, a3⟩ := cell_of_four hb2
  have HB2 := Lib.hid hb2
  have HP2 := Lib.hid hp2
  have HK2 := Lib.hid hk2
  clear hs hp2 hk2 hm2 hb2
  go_wp2_with fail
  ((with_reducible refine (uint_ok' w1.heap.size (w1.heap.size + 1) row2 ([] ++ be 0 2) 0 2 0 2 _ HP2.out (by simp [be_length]) (by omega) (by omega) (by omega) (by omega) (by omega)).mono ?_); rintro e w3 ⟨rfl, hs⟩)
  obtain ⟨row3, hp3, hk3, hm3⟩ := hs.ex
  have hb3 : w3.heap[w.heap.size]? = some (.cells #[.int .i64 0, .int .i64 0, .slice none 0 0, .slice none 0 0] 41 (0, 0)) := hk3.obj HB2.out (notPen (by omega) (fun e => by have := (HP2.out.row_lt _ e).1; omega))
  clear a0 a1 a2 a3
  obtain ⟨a0, a1, a2, a3⟩ := cell_of_four hb3
  have HB3 := Lib.hid hb3
  have HP3 := Lib.hid hp3
  have HK3 := Lib.hid hk3
  clear hs hp3 hk3 hm3 hb3
  go_wp2_with fail
  ((with_reducible refine (text_ok w1.heap.size (w1.heap.size + 1) row3 (([] ++ be 0 2) ++ be 0 2) [] _ _ HP3.out (Bytes.nil _ _ _) (by simp) (fun _ _ _ _ h => absurd rfl h) (by simp [be_length])).mono ?_); rintro e w4 ⟨rfl, hs⟩)
  obtain ⟨row4, hp4, hk4, hm4⟩ := hs.ex
  have hb4 : w4.heap[w.heap.size]? = some (.cells #[.int .i64 0, .int .i64 0, .slice none 0 0, .slice none 0 0] 41 (0, 0)) := hk4.obj HB3.out (notPen (by omega) (fun e => by have := (HP3.out.row_lt _ e).1; omega))
  clear a0 a1 a2 a3
  obtain ⟨a0, a1, a2, a3⟩ := cell_of_four hb4
  have HB4 := Lib.hid hb4
  have HP4 := Lib.hid hp4
  have HK4 := Lib.hid hk4
  clear hs hp4 hk4 hm4 hb4
  go_wp2_with fail
  ((with_reducible refine (uint_ok' w1.heap.size (w1.heap.size + 1) row4 _ 0 1 0 1 _ HP4.out (by simp [be_length]) (by omega) (by omega) (by omega) (by omega) (by omega)).mono ?_); rintro e w5 ⟨rfl, hs⟩)
  obtain ⟨row5, hp5, hk5, hm5⟩ := hs.ex
  have hb5 : w5.heap[w.heap.size]? = some (.cells #[.int .i64 0, .int .i64 0, .slice none 0 0, .slice none 0 0] 41 (0, 0)) := hk5.obj HB4.out (notPen (by omega) (fun e => by have := (HP4.out.row_lt _ e).1; omega))
  clear a0 a1 a2 a3
  obtain ⟨a0, a1, a2, a3⟩ := cell_of_four hb5
  have hbs : (([] ++ be 0 2 ++ be 0 2) ++ (be ([] : List UInt8).length 2 ++ [])) ++ be 0 1 = [0, 0, 0, 0, 0, 0, 0] := by decide +kernel
  rw [hbs] at hp5
  have HP5 := Lib.hid hp5
  have HK5 := Lib.hid hk5
  clear hs hp5 hk5 hm5 hb5 hbs
  go_wp2
  refine wp_loop_rounds 1 ?_
  rw [rounds_succ]
  go_wp2_with fail
  ((with_reducible refine (data_any _ _ _ _ _ HP5.out (by simp)).mono ?_); rintro e w6 ⟨v, rfl, hown, hk6⟩)
  have HO := Lib.hid hown
  have HK6 := Lib.hid hk6
  clear hown hk6
  go_wp2
  go_ret2
  have h1 : Same w (w1.alloc (.cells #[.slice none 0 0] 75)) := (((Keeps.refl _ _).alloc _).trans HK1.out (fun _ _ e => e)).alloc _
  have h2 : Same w w2 := h1.trans HK2.out (fun j hj => notPen (by omega) (by simp))
  have h3 : Same w w3 := h2.trans HK3.out (fun j hj => notPen (by omega) (fun e => by have := (HP2.out.row_lt _ e).1; omega))
  have h4 : Same w w4 := h3.trans HK4.out (fun j hj => notPen (by omega) (fun e => by have := (HP3.out.row_lt _ e).1; omega))
  have h5 : Same w w5 := h4.trans HK5.out (fun j hj => notPen (by omega) (fun e => by have := (HP4.out.row_lt _ e).1; omega))
  exact ⟨v, rfl, own_base HO.out h5.size, h5.trans HK6.out (fun _ _ e => e)⟩

end Go.Proofs.YtafgiljgefeefaaDoor
