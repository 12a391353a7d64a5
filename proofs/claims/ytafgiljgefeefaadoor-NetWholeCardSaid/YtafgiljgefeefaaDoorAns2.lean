/- Answers: what oper.WriteAnswer does. -/
import Derived.Test.YtafgiljgefeefaaDoorAns1
namespace Go.Proofs.YtafgiljgefeefaaDoor
open Go.RowKit
set_option linter.unusedVariables false

/-- Texts, one behind the other. -/
def texts : List ByteArray → List UInt8
  | [] => []
  | s :: r => (be (sb s).length 2 ++ sb s) ++ texts r
theorem texts_append (a b : List ByteArray) : texts (a ++ b) = texts a ++ texts b := by
  induction a with
  | nil => rfl
  | cons s r ih => simp [texts, ih, List.append_assoc]
theorem texts_snoc (ss : List ByteArray) (j : Nat) (h : j < ss.length) : texts (ss.take (j + 1)) = texts (ss.take j) ++ (be (sb ss[j]).length 2 ++ sb ss[j]) := by
  rw [List.take_succ_eq_append_getElem h, texts_append]; simp [texts]
theorem texts_length (ss : List ByteArray) (h : ∀ s ∈ ss, NameOk s) : (texts ss).length ≤ 10 * ss.length := by
  induction ss with
  | nil => simp [texts]
  | cons s r ih =>
    have h1 := ih fun x hx => h x (by simp [hx])
    have h2 := (h s (by simp)).2
    simp only [texts, List.length_append, be_length, List.length_cons, sb_length]
    omega

/-- The bytes of an answer. -/
def ansHead (c n : Int) (ds : List UInt8) (k : Nat) : List UInt8 := ((([] ++ be c.toNat 2) ++ be n.toNat 2) ++ (be ds.length 2 ++ ds)) ++ be k 1
def ansBytes (c n : Int) (ds : List UInt8) (ss : List ByteArray) : List UInt8 := ansHead c n ds ss.length ++ texts ss
theorem ansHead_length (c n : Int) (ds : List UInt8) (k : Nat) : (ansHead c n ds k).length = 7 + ds.length := by
  simp [ansHead, be_length]; omega

set_option maxRecDepth 100000 in
set_option maxHeartbeats 1600000 in
theorem writeAnswer_no (c n : Int) (ao no : Option Addr) (len cap ncap : Nat) (ss : List ByteArray) (w : World) (hx : Strs w (.slice no ss.length ncap) ss) (h : ¬ AnsRight c n len ss) :
    Calls Tryd.prog 35 #[ansVal c n (.slice ao len cap) (.slice no ss.length ncap)] w fun e w' => e = .returned (.tuple #[.slice none 0 0, .int .i64 1]) ∧ Same w w' := by
  have HX := Lib.hid hx
  have HN := Lib.hid h
  clear hx h
  go_enter Tryd.func35, Tryd.ntmps35
  go_wp2_with fail
  ((with_reducible refine (rightAnswer_ok c n ao no len cap ncap ss _ (HX.out.same ((Keeps.refl _ _).alloc _))).mono ?_); rintro e w1 ⟨b, rfl, hk1, hb⟩)
  obtain rfl : b = false := by
    cases b with
    | false => rfl
    | true => exact absurd (hb.1 rfl) HN.out
  have HK := Lib.hid hk1
  clear hk1 hb
  go_wp2
  go_ret2
  exact ⟨rfl, ((Keeps.refl _ _).alloc _).trans HK.out (fun _ _ e => e)⟩

set_option maxRecDepth 100000 in
set_option maxHeartbeats 6400000 in
theorem writeAnswer_yes (c n : Int) (ao no : Option Addr) (cap ncap : Nat) (ds : List UInt8) (ss : List ByteArray) (w : World) (hd : Bytes w (.slice ao ds.length cap) ds) (hx : Strs w (.slice no ss.length ncap) ss) (h : AnsRight c n ds.length ss) :
    Calls Tryd.prog 35 #[ansVal c n (.slice ao ds.length cap) (.slice no ss.length ncap)] w fun e w' => ∃ v, e = .returned (.tuple #[v, .int .i64 0]) ∧
      w'.ownsRow w.heap.size 5 1 v (ansBytes c n ds ss).length (u8s (ansBytes c n ds ss)) ∧ Same w w' := by
  have HR := Lib.hid h
  obtain ⟨⟨r1, r2⟩, ⟨r3, r4⟩, r5, r6, _⟩ := h
  obtain ⟨cn, rfl⟩ := Int.eq_ofNat_of_zero_le r1
  obtain ⟨nn, rfl⟩ := Int.eq_ofNat_of_zero_le r3
  have u1 : IntKind.u64.wrap (cn : Int) = cn := IntWalk.u64_in (cn : Int) (by omega)
  have u2 : IntKind.u64.wrap (nn : Int) = nn := IntWalk.u64_in (nn : Int) (by omega)
  have u3 : IntKind.u64.wrap (ss.length : Int) = ss.length := IntWalk.u64_in (ss.length : Int) (by omega)
  have HX := Lib.hid hx
  have HD := Lib.hid hd
  clear hx hd
  go_enter Tryd.func35, Tryd.ntmps35
  go_wp2_with fail
  ((with_reducible refine (rightAnswer_ok cn nn ao no ds.length cap ncap ss _ (HX.out.same ((Keeps.refl _ _).alloc _))).mono ?_); rintro e w1 ⟨b, rfl, hk1, hb⟩)
  obtain rfl : b = true := hb.2 HR.out
  have hb1 : w1.heap[w.heap.size]? = some (.cells #[.int .i64 cn, .int .i64 nn, .slice ao ds.length cap, .slice no ss.length ncap] 41 (0, 0)) := hk1.obj (heap_alloc_new w _) (fun e => e)
  obtain ⟨a0, a1, a2, a3⟩ := cell_of_four hb1
  have HB1 := Lib.hid hb1
  have HK1 := Lib.hid hk1
  have hz1 : w.heap.size < w1.heap.size := by have := hk1.size; simp only [World.size_alloc] at this; omega
  have hsp : Same w (w1.alloc (.cells #[.slice none 0 0] 75)) := (((Keeps.refl _ _).alloc _).trans hk1 (fun _ _ e => e)).alloc _
  have HSP := Lib.hid hsp
  clear hb hb1 hk1 hsp
  go_wp2_with fail
  ((with_reducible refine (uint_ok' w1.heap.size (w1.heap.size + 1) none [] cn 2 _ 2 _ (Pen.new _ _ w1) (by simp) (by omega) (by omega) (by omega) (by omega) (by omega)).mono ?_); rintro e w2 ⟨rfl, hs⟩)
  obtain ⟨row2, hp2, hk2, hm2⟩ := hs.ex
  have hb2 : w2.heap[w.heap.size]? = some (.cells #[.int .i64 cn, .int .i64 nn, .slice ao ds.length cap, .slice no ss.length ncap] 41 (0, 0)) := hk2.obj (((Keeps.refl (fun _ => False) _).alloc _).obj HB1.out (fun e => e)) (notPen (by omega) (by simp))
  clear a0 a1 a2 a3
  obtain ⟨a0, a1, a2, a3⟩ := cell_of_four hb2
  have hs2 : Same w w2 := HSP.out.trans hk2 (fun j hj => notPen (by omega) (by simp))
  have HB2 := Lib.hid hb2
  have HP2 := Lib.hid hp2
  have HS2 := Lib.hid hs2
  clear hs hp2 hk2 hm2 hb2 hs2
  go_wp2_with fail
  ((with_reducible refine (uint_ok' w1.heap.size (w1.heap.size + 1) row2 ([] ++ be cn 2) nn 2 _ 2 _ HP2.out (by simp [be_length]) (by omega) (by omega) (by omega) (by omega) (by omega)).mono ?_); rintro e w3 ⟨rfl, hs⟩)
  obtain ⟨row3, hp3, hk3, hm3⟩ := hs.ex
  have hb3 : w3.heap[w.heap.size]? = some (.cells #[.int .i64 cn, .int .i64 nn, .slice ao ds.length cap, .slice no ss.length ncap] 41 (0, 0)) := hk3.obj HB2.out (notPen (by omega) (fun e => by have := (HP2.out.row_lt _ e).1; omega))
  clear a0 a1 a2 a3
  obtain ⟨a0, a1, a2, a3⟩ := cell_of_four hb3
  have hs3 : Same w w3 := HS2.out.trans hk3 (fun j hj => notPen (by omega) (fun e => by have := (HP2.out.row_lt _ e).1; omega))
  have HB3 := Lib.hid hb3
  have HP3 := Lib.hid hp3
  have HD3 := Lib.hid (HD.out.same hs3)
  have HS3 := Lib.hid hs3
  clear hs hp3 hk3 hm3 hb3 hs3
  go_wp2_with fail
  ((with_reducible refine (text_ok w1.heap.size (w1.heap.size + 1) row3 (([] ++ be cn 2) ++ be nn 2) ds _ _ HP3.out HD3.out (by omega) (fun a n c e h0 => ?_) (by simp [be_length]; omega)).mono ?_)
   · simp only [Value.slice.injEq] at e
     obtain ⟨rfl, _, _⟩ := e
     have h1 := HD.out.lt h0
     exact ⟨by omega, fun e => by have := (HP3.out.row_lt _ e).1; omega⟩
   rintro e w4 ⟨rfl, hs⟩)
  obtain ⟨row4, hp4, hk4, hm4⟩ := hs.ex
  have hb4 : w4.heap[w.heap.size]? = some (.cells #[.int .i64 cn, .int .i64 nn, .slice ao ds.length cap, .slice no ss.length ncap] 41 (0, 0)) := hk4.obj HB3.out (notPen (by omega) (fun e => by have := (HP3.out.row_lt _ e).1; omega))
  clear a0 a1 a2 a3
  obtain ⟨a0, a1, a2, a3⟩ := cell_of_four hb4
  have hs4 : Same w w4 := HS3.out.trans hk4 (fun j hj => notPen (by omega) (fun e => by have := (HP3.out.row_lt _ e).1; omega))
  have HB4 := Lib.hid hb4
  have HP4 := Lib.hid hp4
  have HS4 := Lib.hid hs4
  clear hs hp4 hk4 hm4 hb4 hs4
  go_wp2_with fail
  ((with_reducible refine (uint_ok' w1.heap.size (w1.heap.size + 1) row4 _ ss.length 1 _ 1 _ HP4.out (by simp [be_length]; omega) (by omega) (by omega) (by omega) (by omega) (by omega)).mono ?_); rintro e w5 ⟨rfl, hs⟩)
  obtain ⟨row5, hp5, hk5, hm5⟩ := hs.ex
  have hb5 : w5.heap[w.heap.size]? = some (.cells #[.int .i64 cn, .int .i64 nn, .slice ao ds.length cap, .slice no ss.length ncap] 41 (0, 0)) := hk5.obj HB4.out (notPen (by omega) (fun e => by have := (HP4.out.row_lt _ e).1; omega))
  clear a0 a1 a2 a3
  obtain ⟨a0, a1, a2, a3⟩ := cell_of_four hb5
  have hs5 : Same w w5 := HS4.out.trans hk5 (fun j hj => notPen (by omega) (fun e => by have := (HP4.out.row_lt _ e).1; omega))
  have hp5' : Pen 75 5 w5 w1.heap.size (w1.heap.size + 1) row5 (ansHead cn nn ds ss.length) := hp5
  have hhl := ansHead_length cn nn ds ss.length
  have HX5 := Lib.hid (HX.out.same hs5)
  have HP5 := Lib.hid hp5'
  have HS5 := Lib.hid hs5
  have HN := Lib.hid HR.out.2.2.2.2
  clear hs hp5 hk5 hm5 hb5 hs5 hp5' HD3
  go_wp2
  go_loopw [6, 35] (fun _ i wr => ∃ j : Nat, j ≤ ss.length ∧ i = .int .i64 j ∧ Step 75 5 w5 wr w1.heap.size (w1.heap.size + 1) row5 (ansHead cn nn ds ss.length) (texts (ss.take j))) (fun _ i _ => ss.length - (intOf i).toNat)
  case atStart => exact ⟨0, by omega, rfl, by simpa [texts] using Step.nothing HP5.out (Keeps.refl _ _)⟩
  case round =>
    obtain ⟨j, hj, rfl, hs⟩ := hrel
    obtain ⟨row6, hp6, hk6, hm6⟩ := hs.ex
    have htl : (texts (ss.take j)).length ≤ 60 := by
      have h1 := texts_length (ss.take j) (fun s hs => HN.out s (List.mem_of_mem_take hs))
      have h2 : (ss.take j).length ≤ 6 := by simp; omega
      omega
    have hx6 : Strs wr (.slice no ss.length ncap) ss := HX.out.far rfl (HS5.out.any.trans (S := PenSet w1.heap.size row5) hk6 (fun _ _ e => e)) (fun k hk => notPen (by omega) (fun e => by have := (HP5.out.row_lt _ e).1; omega))
    by_cases hlt : j < ss.length
    · obtain ⟨a, rfl, hc⟩ := hx6.at hlt
      have hlt2 : (j : Int) < (ss.length : Int) := by omega
      have hsz := (HN.out _ (List.getElem_mem hlt)).2
      have hsn := texts_snoc ss j hlt
      have hsl := sb_length ss[j]
      have HP6 := Lib.hid hp6
      have HK6 := Lib.hid hk6
      have HM6 := Lib.hid hm6
      have HSN := Lib.hid hsn
      have hy := bytesWorld_keeps (Keeps.refl (fun _ => False) wr) 5 ss[j]
      have HY := Lib.hid hy
      have HPY := Lib.hid (hp6.keeps hy (fun e => e) (fun _ _ e => e))
      have hzz : w1.heap.size < wr.heap.size := by have := hp6.lt; have := hp6.hb; omega
      have cv := Lib.run_convert_string_bytes (P := Tryd.prog) wr 9 33 5 ss[j] Tryd.underlying9 Tryd.underlying33 Tryd.underlying5
      clear hs hp6 hk6 hm6 hx6 hsn a0 a1 a2 a3 hy
      go_wp2_with fail
      ((with_reducible refine (text_ok w1.heap.size (w1.heap.size + 1) row6 _ (sb ss[j]) _ _ HPY.out (bytesWorld_bytes _ _ _ _ _ (sb_length _).symm) (by omega) (fun a n c e h0 => ?_) (by rw [List.length_append]; omega)).mono ?_)
       · simp only [Value.slice.injEq, Option.some.injEq] at e
         obtain ⟨rfl, _, _⟩ := e
         exact ⟨by simp only; omega, fun e => by have := (HP6.out.row_lt _ e).2; simp only at this; omega⟩
       rintro e w7 ⟨rfl, hs7⟩)
      have HS7 := Lib.hid hs7
      clear hs7 cv
      go_wp2
      go_roundw
      case rel =>
        refine ⟨j + 1, by omega, by go_num, Step.cont (HK6.out.trans HY.out (fun _ _ e => e.elim)) (HM6.out.trans (Moves.refl wr row6) HK6.out.size) ?_ rfl HSN.out.symm⟩
        exact HS7.out
      case measure => simp [intOf]; omega
    · have hjn : ss.take j = ss := List.take_of_length_le (by omega)
      rw [hjn] at hp6 htl
      have HP6 := Lib.hid hp6
      have HS6 : Hid (Same w wr) := Lib.hid (HS5.out.trans hk6 (fun k hk => notPen (by omega) (fun e => by have := (HP5.out.row_lt _ e).1; omega)))
      clear hs hp6 hk6 hm6 hx6 hjn
      go_wp2_with fail
      ((with_reducible refine (data_any _ _ _ _ _ HP6.out (by rw [List.length_append]; omega)).mono ?_); rintro e w6 ⟨v, rfl, hown, hk7⟩)
      have HO := Lib.hid hown
      have HK7 := Lib.hid hk7
      clear hown hk7
      go_wp2
      go_ret2
      exact ⟨v, rfl, own_base HO.out HS6.out.size, HS6.out.trans HK7.out (fun _ _ e => e)⟩

end Go.Proofs.YtafgiljgefeefaaDoor
