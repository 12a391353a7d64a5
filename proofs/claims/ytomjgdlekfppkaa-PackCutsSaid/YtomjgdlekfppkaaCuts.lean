/- The walk of PackCuts. -/
import Derived.Test.YtomjgdlekfppkaaPack3
import Derived.Test.YtomjgdlekfppkaaEye4
namespace Go.Proofs.Ytomjgdlekfppkaa
open Go.RowKit
set_option linter.unusedVariables false

theorem be_two (n : Nat) (h : n < 65536) : beVal (be n 2) = n := by
  rw [be_succ, be_succ]
  simp only [beVal, be, List.range_zero, List.map_nil, List.foldl_cons, List.foldl_nil, byte_toNat]
  rw [Nat.pow_one, Nat.pow_zero]
  omega
theorem and_mask (k : Int) : 0 ≤ bits BinOp.and IntKind.i64 k 65535 ∧ bits BinOp.and IntKind.i64 k 65535 < 65536 := by
  have h2 : (BitVec.ofInt IntKind.i64.bits k &&& BitVec.ofInt IntKind.i64.bits 65535).toNat < 65536 := by
    rw [BitVec.toNat_and]
    have h3 : (BitVec.ofInt IntKind.i64.bits 65535).toNat = 65535 := by decide
    rw [h3]
    exact Nat.lt_succ_of_le Nat.and_le_right
  have h4 : bits BinOp.and IntKind.i64 k 65535 = IntKind.i64.wrap ((BitVec.ofInt IntKind.i64.bits k &&& BitVec.ofInt IntKind.i64.bits 65535).toNat : Int) := rfl
  rw [h4, IntWalk.i64_in _ (by omega)]
  omega

set_option maxRecDepth 100000 in
set_option maxHeartbeats 1600000 in
theorem cuts_long (ao : Option Addr) (n c : Nat) (k : Int) (w : World) (h : (1000 : Int) < (n : Int)) :
    Calls Try.prog 7 #[.slice ao n c, .int .i64 k] w fun e w' => e = .returned (.bool true) ∧ Same w w' := by
  go_enter Try.func7, Try.ntmps7
  go_wp2_with fail
  ((with_reducible refine (speaks_ok _).mono ?_); rintro e w1 ⟨rfl, hk1⟩)
  have HK := Lib.hid hk1
  clear hk1
  go_wp2
  go_ret
  exact ⟨rfl, HK.out.alloc _⟩

set_option maxRecDepth 100000 in
set_option maxHeartbeats 3200000 in
theorem cuts_short (ao : Option Addr) (bs : List UInt8) (c : Nat) (k : Int) (w : World) (hx : Bytes w (.slice ao bs.length c) bs) (hl : bs.length ≤ 1000) :
    Calls Try.prog 7 #[.slice ao bs.length c, .int .i64 k] w fun e w' => e = .returned (.bool true) ∧ Same w w' := by
  have hl2 : (bs.length : Int) ≤ 1000 := by omega
  obtain ⟨hq0, hq1⟩ := and_mask k
  have HX := Lib.hid hx
  clear hx
  go_enter Try.func7, Try.ntmps7
  go_wp2_with fail
  ((with_reducible refine (speaks_ok _).mono ?_); rintro e w1 ⟨rfl, hk1⟩)
  have hx1 : Bytes (w1.alloc (.cells #[.slice none 0 0] 28)) (.slice ao bs.length c) bs := HX.out.same (hk1.alloc _)
  have hxs : ∀ a n c', Value.slice ao bs.length c = .slice (some a) n c' → bs ≠ [] → a.block ≠ w1.heap.size ∧ (none : Option Nat) ≠ some a.block := by
    intro a n c' ha h0
    simp only [Value.slice.injEq] at ha
    obtain ⟨rfl, _, _⟩ := ha
    have := HX.out.lt h0
    have := hk1.size
    exact ⟨by omega, by simp⟩
  have HK := Lib.hid hk1
  have HX1 := Lib.hid hx1
  have HXS := Lib.hid hxs
  clear hk1 hx1 hxs
  go_wp2_with fail
  ((with_reducible refine (text_ok w1.heap.size (w1.heap.size + 1) none [] bs _ _ (Pen.new _ _ w1) HX1.out (by omega) HXS.out (by simp; omega)).mono ?_); rintro e w2 ⟨rfl, hs⟩)
  obtain ⟨row2, hp2, hk2, hm2⟩ := hs.ex
  have hdl : ([] ++ (be bs.length 2 ++ bs)).length = bs.length + 2 := by simp [be_length]; omega
  have ht2 : ([] ++ (be bs.length 2 ++ bs)).take 2 = be bs.length 2 := by
    rw [List.nil_append, List.take_append_of_le_length (by rw [be_length]; omega)]
    exact be_take_all _ _
  generalize hds : [] ++ (be bs.length 2 ++ bs) = ds at *
  have HP2 := Lib.hid hp2
  have HK2 := Lib.hid hk2
  have HD := Lib.hid hdl
  have HT := Lib.hid ht2
  have hdl1 : ds.length ≤ 1002 := by omega
  have hdl2 : bs.length < ds.length := by omega
  clear hs hp2 hk2 hm2 hds hdl ht2
  go_wp2_with fail
  ((with_reducible refine (data_any _ _ _ _ _ HP2.out (by omega)).mono ?_); rintro e w3 ⟨v, rfl, hown, hk3⟩)
  obtain ⟨g, cap, rfl, hcap⟩ : ∃ g cap, v = .slice (some ⟨g, 0, none⟩) ds.length cap ∧ ds.length ≤ cap := by
    rcases hown.2 with ⟨_, h⟩ | ⟨g, cap, _, h, _, _, h2, _⟩
    · omega
    · exact ⟨g, cap, h, h2⟩
  have HO := Lib.hid hown
  have HK3 := Lib.hid hk3
  have hd0 : (0 : Int) < (ds.length : Int) := by omega
  clear hown hk3
  obtain ⟨n, hn⟩ : ∃ n : Nat, bits BinOp.and IntKind.i64 k 65535 % (ds.length : Int) = (n : Int) := Int.eq_ofNat_of_zero_le (Int.emod_nonneg _ (by omega))
  have hn2 : (n : Int) < (ds.length : Int) := by rw [← hn]; exact Int.emod_lt_of_pos _ (by omega)
  have hn3 : (n : Int) ≤ (cap : Int) := by omega
  have hpl : (ds.take n).length = n := by simp; omega
  have hpart : Bytes w3 (.slice (some ⟨g, 0, none⟩) n cap) (ds.take n) := Bytes.take (Bytes.of_own HO.out) n (by omega)
  have HPT := Lib.hid hpart
  have HPL := Lib.hid hpl
  clear hpart hpl
  go_wp2_with fail
  ((with_reducible refine (neweye_some ⟨g, 0, none⟩ n cap (ds.take n) w3 HPT.out HPL.out (by omega)).mono ?_); rintro e w4 ⟨B, u, rfl, hnew, hu⟩)
  have HN := Lib.hid hnew
  have HU := Lib.hid hu
  clear hnew hu
  have hfail : (ds.take n).length < 0 + 2 ∨ (ds.take n).length < 0 + 2 + beVal (((ds.take n).drop 0).take 2) := by
    rw [HPL.out]
    by_cases h2 : n < 2
    · exact .inl (by omega)
    · refine .inr ?_
      rw [List.drop_zero, List.take_take, show min 2 n = 2 from by omega, HT.out, be_two _ (by omega)]
      have := HD.out; omega
  have HF := Lib.hid hfail
  clear hfail
  go_wp2_with fail
  ((with_reducible refine (eye_text_fail B u (ds.take n) 0 _ HN.out.eye (by rw [HPL.out]; omega) HF.out).mono ?_); rintro e w5 ⟨rfl, he5, hk5⟩)
  have HE5 := Lib.hid he5
  have HK5 := Lib.hid hk5
  clear he5 hk5
  go_wp2_with fail
  ((with_reducible refine (eye_raw_ok B u (ds.take n) 0 n _ HE5.out (by rw [HPL.out]; omega) (by rw [HPL.out]; omega) HU.out).mono ?_); rintro e w6 ⟨r, rfl, ho6, he6, hk6⟩)
  have hpn : ((ds.take n).drop 0).take n = ds.take n := by rw [List.drop_zero, List.take_take, Nat.min_self]
  rw [hpn] at ho6
  have ho6' : w6.ownsRow w5.heap.size 5 1 r (ds.take n).length (u8s (ds.take n)) := by rw [HPL.out]; exact ho6
  have he6' : Eye 62 5 w6 B u (ds.take n) (ds.take n).length := by rw [HPL.out]; simpa using he6
  have hk36 : Keeps (fun k => k = B) w3 w6 := (((HN.out.same.any).trans HK5.out (fun _ _ e => e)).trans hk6 (fun _ _ e => e))
  have hgB : g ≠ B := by
    have h1 := (HO.out.lt g rfl).2
    have h2 := HN.out.new
    omega
  have hs1 : ∀ nq, (convert 26 9 r).run Try.prog (w6.drewN nq) = .ok (.string ⟨(ds.take n).toArray⟩) (w6.drewN nq) := fun nq =>
    run_string_own 26 9 5 (own_keeps ((Keeps.refl (fun _ => False) w6).drewN nq) ho6' (fun _ _ e => e)) Try.underlying26 Try.underlying5 Try.underlying9
  have hs2 : ∀ nq, (convert 26 9 (.slice (some ⟨g, 0, none⟩) n cap)).run Try.prog (w6.drewN nq) = .ok (.string ⟨(ds.take n).toArray⟩) (w6.drewN nq) := fun nq =>
    run_string (HPT.out.keeps (hk36.drewN nq) (fun a n' c' ha => by simp only [Value.slice.injEq, Option.some.injEq] at ha; rw [← ha.1]; exact hgB)) 26 9 5 Try.underlying26 Try.underlying5 Try.underlying9
      (fun a n' c' ha => by simp only [Value.slice.injEq, Option.some.injEq] at ha; rw [← ha.1])
  have HE6 := Lib.hid he6'
  have HK36 := Lib.hid hk36
  clear ho6 he6 hk6 ho6' he6' hk36
  go_wp2_with fail
  go_quiet ((go_at_call 24; exact Calls.quiet_of (end_ok B u (ds.take n) _ (HE6.out.drewN _) (by rw [HPL.out]; omega))))
  go_wp2
  go_ret
  refine ⟨rfl, ?_⟩
  have h1 : Same w w3 := (((HK.out.alloc _).trans HK2.out (fun j hj => notPen (by have := HK.out.size; omega) (by simp))).trans HK3.out (fun _ _ e => e))
  have h2 : Same w w6 := h1.trans HK36.out (fun j hj e => by have h3 := HN.out.new; have h4 := h1.size; omega)
  exact h2.drewN _

end Go.Proofs.Ytomjgdlekfppkaa
