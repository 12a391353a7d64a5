/- Operations: what oper.Write does. -/
import Derived.Test.YtafgiljgefeefaaDoorOp1
namespace Go.Proofs.YtafgiljgefeefaaDoor
open Go.RowKit
set_option linter.unusedVariables false

/-- The bytes of an operation. -/
def opBytes (k off n : Int) (p t : ByteArray) (ds : List UInt8) : List UInt8 :=
  ((((([] ++ be k.toNat 1) ++ be off.toNat 2) ++ be n.toNat 2) ++ (be (sb p).length 2 ++ sb p)) ++ (be (sb t).length 2 ++ sb t)) ++ (be ds.length 2 ++ ds)
theorem opBytes_length (k off n : Int) (p t : ByteArray) (ds : List UInt8) : (opBytes k off n p t ds).length = 11 + p.size + t.size + ds.length := by
  simp [opBytes, be_length, sb_length]; omega

set_option maxRecDepth 100000 in
set_option maxHeartbeats 1600000 in
theorem write_no (k off n : Int) (p t : ByteArray) (ao : Option Addr) (len cap : Nat) (w : World) (h : ¬ OpRight k off n p t len) :
    Calls Tryd.prog 34 #[opVal k off n p t (.slice ao len cap)] w fun e w' => e = .returned (.tuple #[.slice none 0 0, .int .i64 1]) ∧ Same w w' := by
  go_enter Tryd.func34, Tryd.ntmps34
  go_wp2_with fail
  ((with_reducible refine (rightOp_ok k off n p t ao len cap _).mono ?_); rintro e w1 ⟨rfl, hk1⟩)
  rw [decide_eq_false h]
  have HK := Lib.hid hk1
  clear hk1
  go_wp2
  go_ret2
  exact ⟨rfl, ((Keeps.refl _ _).alloc _).trans HK.out (fun _ _ e => e)⟩

set_option maxRecDepth 100000 in
set_option maxHeartbeats 3200000 in
theorem write_yes (k off n : Int) (p t : ByteArray) (ao : Option Addr) (cap : Nat) (ds : List UInt8) (w : World) (h : OpRight k off n p t ds.length) (hx : Bytes w (.slice ao ds.length cap) ds) :
    Calls Tryd.prog 34 #[opVal k off n p t (.slice ao ds.length cap)] w fun e w' => ∃ v, e = .returned (.tuple #[v, .int .i64 0]) ∧
      w'.ownsRow w.heap.size 5 1 v (opBytes k off n p t ds).length (u8s (opBytes k off n p t ds)) ∧ Same w w' := by
  obtain ⟨r1, r2, r3, r4, ⟨r5, r6⟩, ⟨r7, r8⟩, r9⟩ := h
  obtain ⟨kn, rfl⟩ := Int.eq_ofNat_of_zero_le (show (0 : Int) ≤ k by omega)
  obtain ⟨fn, rfl⟩ := Int.eq_ofNat_of_zero_le r5
  obtain ⟨nn, rfl⟩ := Int.eq_ofNat_of_zero_le r7
  have hlen := opBytes_length kn fn nn p t ds
  have hsp := sb_length p
  have hst := sb_length t
  have u1 : IntKind.u64.wrap (kn : Int) = kn := by have := IntWalk.u64_in (kn : Int) (by omega); exact this
  have u2 : IntKind.u64.wrap (fn : Int) = fn := by have := IntWalk.u64_in (fn : Int) (by omega); exact this
  have u3 : IntKind.u64.wrap (nn : Int) = nn := by have := IntWalk.u64_in (nn : Int) (by omega); exact this
  have HX := Lib.hid hx
  clear hx
  go_enter Tryd.func34, Tryd.ntmps34
  go_wp2_with fail
  ((with_reducible refine (rightOp_ok kn fn nn p t ao ds.length cap _).mono ?_); rintro e w1 ⟨rfl, hk1⟩)
  rw [decide_eq_true (show OpRight kn fn nn p t ds.length from ⟨r1, r2, r3, r4, ⟨r5, r6⟩, ⟨r7, r8⟩, r9⟩)]
  have hb1 : w1.heap[w.heap.size]? = some (.cells #[.int .i64 kn, .string p, .string t, .int .i64 fn, .int .i64 nn, .slice ao ds.length cap] 35 (0, 0)) := hk1.obj (heap_alloc_new w _) (fun e => e)
  obtain ⟨a0, a1, a2, a3, a4, a5⟩ := cell_of_six hb1
  have HB1 := Lib.hid hb1
  have HK1 := Lib.hid hk1
  have hz1 : w.heap.size < w1.heap.size := by have := hk1.size; simp only [World.size_alloc] at this; omega
  have hsp1 : Same w (w1.alloc (.cells #[.slice none 0 0] 75)) := (((Keeps.refl _ _).alloc _).trans hk1 (fun _ _ e => e)).alloc _
  have HS1 := Lib.hid hsp1
  clear hb1 hk1 hsp1
  go_wp2_with fail
  ((with_reducible refine (uint_ok' w1.heap.size (w1.heap.size + 1) none [] kn 1 _ 1 _ (Pen.new _ _ w1) (by simp) (by omega) (by omega) (by omega) (by omega) (by omega)).mono ?_); rintro e w2 ⟨rfl, hs⟩)
  obtain ⟨row2, hp2, hk2, hm2⟩ := hs.ex
  have hb2 : w2.heap[w.heap.size]? = some (.cells #[.int .i64 kn, .string p, .string t, .int .i64 fn, .int .i64 nn, .slice ao ds.length cap] 35 (0, 0)) := hk2.obj (((Keeps.refl (fun _ => False) _).alloc _).obj HB1.out (fun e => e)) (notPen (by omega) (by simp))
  clear a0 a1 a2 a3 a4 a5
  obtain ⟨a0, a1, a2, a3, a4, a5⟩ := cell_of_six hb2
  have hs2 : Same w w2 := HS1.out.trans hk2 (fun j hj => notPen (by omega) (by simp))
  have HB2 := Lib.hid hb2
  have HP2 := Lib.hid hp2
  have HS2 := Lib.hid hs2
  clear hs hp2 hk2 hm2 hb2 hs2
  go_wp2_with fail
  ((with_reducible refine (uint_ok' w1.heap.size (w1.heap.size + 1) row2 ([] ++ be kn 1) fn 2 _ 2 _ HP2.out (by simp [be_length]) (by omega) (by omega) (by omega) (by omega) (by omega)).mono ?_); rintro e w3 ⟨rfl, hs⟩)
  obtain ⟨row3, hp3, hk3, hm3⟩ := hs.ex
  have hb3 : w3.heap[w.heap.size]? = some (.cells #[.int .i64 kn, .string p, .string t, .int .i64 fn, .int .i64 nn, .slice ao ds.length cap] 35 (0, 0)) := hk3.obj HB2.out (notPen (by omega) (fun e => by have := (HP2.out.row_lt _ e).1; omega))
  clear a0 a1 a2 a3 a4 a5
  obtain ⟨a0, a1, a2, a3, a4, a5⟩ := cell_of_six hb3
  have hs3 : Same w w3 := HS2.out.trans hk3 (fun j hj => notPen (by omega) (fun e => by have := (HP2.out.row_lt _ e).1; omega))
  have HB3 := Lib.hid hb3
  have HP3 := Lib.hid hp3
  have HS3 := Lib.hid hs3
  clear hs hp3 hk3 hm3 hb3 hs3
  go_wp2_with fail
  ((with_reducible refine (uint_ok' w1.heap.size (w1.heap.size + 1) row3 (([] ++ be kn 1) ++ be fn 2) nn 2 _ 2 _ HP3.out (by simp [be_length]) (by omega) (by omega) (by omega) (by omega) (by omega)).mono ?_); rintro e w4 ⟨rfl, hs⟩)
  obtain ⟨row4, hp4, hk4, hm4⟩ := hs.ex
  have hb4 : w4.heap[w.heap.size]? = some (.cells #[.int .i64 kn, .string p, .string t, .int .i64 fn, .int .i64 nn, .slice ao ds.length cap] 35 (0, 0)) := hk4.obj HB3.out (notPen (by omega) (fun e => by have := (HP3.out.row_lt _ e).1; omega))
  clear a0 a1 a2 a3 a4 a5
  obtain ⟨a0, a1, a2, a3, a4, a5⟩ := cell_of_six hb4
  have hs4 : Same w w4 := HS3.out.trans hk4 (fun j hj => notPen (by omega) (fun e => by have := (HP3.out.row_lt _ e).1; omega))
  have HB4 := Lib.hid hb4
  have HP4 := Lib.hid hp4
  have HS4 := Lib.hid hs4
  clear hs hp4 hk4 hm4 hb4 hs4
  have hy4 := bytesWorld_keeps (Keeps.refl (fun _ => False) w4) 5 p
  have HY4 := Lib.hid hy4
  have HPY4 := Lib.hid (HP4.out.keeps hy4 (fun e => e) (fun _ _ e => e))
  have hzz4 : w1.heap.size < w4.heap.size := by have := HP4.out.lt; have := HP4.out.hb; omega
  have cv := Lib.run_convert_string_bytes (P := Tryd.prog) w4 9 33 5 p Tryd.underlying9 Tryd.underlying33 Tryd.underlying5
  clear hy4
  go_wp2_with fail
  ((with_reducible refine (text_ok w1.heap.size (w1.heap.size + 1) row4 _ (sb p) _ _ HPY4.out (bytesWorld_bytes _ _ _ _ _ (sb_length _).symm) (by omega) (fun a n c e h0 => ?_) (by simp [be_length]; omega)).mono ?_)
   · simp only [Value.slice.injEq, Option.some.injEq] at e
     obtain ⟨rfl, _, _⟩ := e
     exact ⟨by simp only; omega, fun e => by have := (HP4.out.row_lt _ e).2; simp only at this; omega⟩
   rintro e w5 ⟨rfl, hs⟩)
  clear cv
  obtain ⟨row5, hp5, hk5, hm5⟩ := hs.ex
  have hb5 : w5.heap[w.heap.size]? = some (.cells #[.int .i64 kn, .string p, .string t, .int .i64 fn, .int .i64 nn, .slice ao ds.length cap] 35 (0, 0)) := hk5.obj (HY4.out.obj HB4.out (fun e => e)) (notPen (by omega) (fun e => by have := (HP4.out.row_lt _ e).1; omega))
  clear a0 a1 a2 a3 a4 a5
  obtain ⟨a0, a1, a2, a3, a4, a5⟩ := cell_of_six hb5
  have hs5 : Same w w5 := (HS4.out.trans HY4.out (fun _ _ e => e)).trans hk5 (fun j hj => notPen (by omega) (fun e => by have := (HP4.out.row_lt _ e).1; omega))
  have HB5 := Lib.hid hb5
  have HP5 := Lib.hid hp5
  have HS5 := Lib.hid hs5
  clear hs hp5 hk5 hm5 hb5 hs5
  have hy5 := bytesWorld_keeps (Keeps.refl (fun _ => False) w5) 5 t
  have HY5 := Lib.hid hy5
  have HPY5 := Lib.hid (HP5.out.keeps hy5 (fun e => e) (fun _ _ e => e))
  have hzz5 : w1.heap.size < w5.heap.size := by have := HP5.out.lt; have := HP5.out.hb; omega
  have cv := Lib.run_convert_string_bytes (P := Tryd.prog) w5 9 33 5 t Tryd.underlying9 Tryd.underlying33 Tryd.underlying5
  clear hy5
  go_wp2_with fail
  ((with_reducible refine (text_ok w1.heap.size (w1.heap.size + 1) row5 _ (sb t) _ _ HPY5.out (bytesWorld_bytes _ _ _ _ _ (sb_length _).symm) (by omega) (fun a n c e h0 => ?_) (by simp [be_length]; omega)).mono ?_)
   · simp only [Value.slice.injEq, Option.some.injEq] at e
     obtain ⟨rfl, _, _⟩ := e
     exact ⟨by simp only; omega, fun e => by have := (HP5.out.row_lt _ e).2; simp only at this; omega⟩
   rintro e w6 ⟨rfl, hs⟩)
  clear cv
  obtain ⟨row6, hp6, hk6, hm6⟩ := hs.ex
  have hb6 : w6.heap[w.heap.size]? = some (.cells #[.int .i64 kn, .string p, .string t, .int .i64 fn, .int .i64 nn, .slice ao ds.length cap] 35 (0, 0)) := hk6.obj (HY5.out.obj HB5.out (fun e => e)) (notPen (by omega) (fun e => by have := (HP5.out.row_lt _ e).1; omega))
  clear a0 a1 a2 a3 a4 a5
  obtain ⟨a0, a1, a2, a3, a4, a5⟩ := cell_of_six hb6
  have hs6 : Same w w6 := (HS5.out.trans HY5.out (fun _ _ e => e)).trans hk6 (fun j hj => notPen (by omega) (fun e => by have := (HP5.out.row_lt _ e).1; omega))
  have HB6 := Lib.hid hb6
  have HP6 := Lib.hid hp6
  have HS6 := Lib.hid hs6
  clear hs hp6 hk6 hm6 hb6 hs6
  have HX6 := Lib.hid (HX.out.same HS6.out)
  go_wp2_with fail
  ((with_reducible refine (text_ok w1.heap.size (w1.heap.size + 1) row6 _ ds _ _ HP6.out HX6.out (by omega) (fun a n c e h0 => ?_) (by simp [be_length]; omega)).mono ?_)
   · simp only [Value.slice.injEq] at e
     obtain ⟨rfl, _, _⟩ := e
     have h1 := HX.out.lt h0
     exact ⟨by omega, fun e => by have := (HP6.out.row_lt _ e).1; omega⟩
   rintro e w7 ⟨rfl, hs⟩)
  obtain ⟨row7, hp7, hk7, hm7⟩ := hs.ex
  have hs7 : Same w w7 := HS6.out.trans hk7 (fun j hj => notPen (by omega) (fun e => by have := (HP6.out.row_lt _ e).1; omega))
  have hp7' : Pen 75 5 w7 w1.heap.size (w1.heap.size + 1) row7 (opBytes kn fn nn p t ds) := hp7
  have HP7 := Lib.hid hp7'
  have HS7 := Lib.hid hs7
  clear hs hp7 hk7 hm7 hs7 hp7' a0 a1 a2 a3 a4 a5
  go_wp2_with fail
  ((with_reducible refine (data_any _ _ _ _ _ HP7.out (by omega)).mono ?_); rintro e w8 ⟨v, rfl, hown, hk8⟩)
  have HO := Lib.hid hown
  have HK8 := Lib.hid hk8
  clear hown hk8
  go_wp2
  go_ret2
  exact ⟨v, rfl, own_base HO.out HS7.out.size, HS7.out.trans HK8.out (fun _ _ e => e)⟩

end Go.Proofs.YtafgiljgefeefaaDoor
