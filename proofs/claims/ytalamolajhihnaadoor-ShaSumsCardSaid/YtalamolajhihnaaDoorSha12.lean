/- The walk of ShaNothing. -/
import Derived.Test.YtalamolajhihnaaDoorSha11
namespace Go.Proofs.YtalamolajhihnaaDoor
open Go.RowKit
set_option linter.unusedVariables false

set_option maxRecDepth 100000 in
set_option maxHeartbeats 12800000 in
theorem nothing_long (ao bo : Option Addr) (n m c d : Nat) (w : World) (hN : Nums w) (h : (1000 : Int) < (n : Int) ∨ (1000 : Int) < (m : Int)) :
    Calls Tryd.prog 6 #[.slice ao n c, .slice bo m d] w fun e w' => e = .returned (.bool true) ∧ Same w w' := by
  have HN := Lib.hid hN
  clear hN
  by_cases h1 : (1000 : Int) < (n : Int)
  · clear h
    go_enter Tryd.func6, Tryd.ntmps6
    go_wp2_with fail
    ((with_reducible refine (speaks03 _ HN.out).mono ?_); rintro e w1 ⟨rfl, hk1⟩)
    go_wp2
    go_ret
    exact ⟨rfl, hk1⟩
  · have h2 : (1000 : Int) < (m : Int) := by omega
    clear h
    go_enter Tryd.func6, Tryd.ntmps6
    go_wp2_with fail
    ((with_reducible refine (speaks03 _ HN.out).mono ?_); rintro e w1 ⟨rfl, hk1⟩)
    go_wp2
    go_ret
    exact ⟨rfl, hk1⟩

set_option maxRecDepth 100000 in
set_option maxHeartbeats 25600000 in
theorem nothing_short (ao bo : Option Addr) (c d : Nat) (as' bs : List UInt8) (w : World) (hN : Nums w) (ha : Held w ao as'.length c as') (hb : Held w bo bs.length d bs) (h1 : ¬ (1000 : Int) < (as'.length : Int)) (h2 : ¬ (1000 : Int) < (bs.length : Int)) :
    Calls Tryd.prog 6 #[.slice ao as'.length c, .slice bo bs.length d] w fun e w' => e = .returned (.bool true) ∧ Same w w' := by
  have HN := Lib.hid hN
  have HA := Lib.hid ha
  have HB := Lib.hid hb
  obtain ⟨i0, hi0, hz0, hz1, hz2⟩ := info_parts (show (Tryd.prog.info? 5).map (fun i => (i.zero, i.size, i.bytes)) = some (some (.int .u8 0), 1, 1) from by kernel_rfl)
  clear hN ha hb
  go_enter Tryd.func6, Tryd.ntmps6
  go_wp2_with fail
  ((with_reducible refine (speaks03 _ HN.out).mono ?_); rintro e w1 ⟨rfl, hk1⟩)
  have HK1 := Lib.hid hk1
  have HN1 : Hid (Nums w1) := Lib.hid (HN.out.keep hk1 (fun e => e))
  clear hk1
  go_wp2_with fail
  ((with_reducible refine (new_any _ (nums_pos HN1.out)).mono ?_); rintro e w2 ⟨rfl, hx2, hk2⟩)
  have HX2 := Lib.hid hx2
  have HK2 := Lib.hid hk2
  have HN2 : Hid (Nums w2) := Lib.hid (HN1.out.keep hk2 (fun e => e))
  have hs2 : w1.heap.size < w2.heap.size := hx2.whole.lt
  clear hx2 hk2
  go_wp2_with fail
  ((with_reducible refine (new_any _ (nums_pos HN2.out)).mono ?_); rintro e w3 ⟨rfl, hy3, hk3⟩)
  have HY3 := Lib.hid hy3
  have HX3 : Hid (HasherAt w3 w1.heap.size hs0) := Lib.hid (HX2.out.keep hk3 (fun e => e))
  have HK3 : Hid (Same w w3) := Lib.hid ((HK1.out.trans HK2.out (fun _ _ e => e)).trans hk3 (fun _ _ e => e))
  have HN3 : Hid (Nums w3) := Lib.hid (HN2.out.keep hk3 (fun e => e))
  have hw1 : w.heap.size ≤ w1.heap.size := HK1.out.size
  have hs3 : w2.heap.size < w3.heap.size := hy3.whole.lt
  clear hy3 hk3 HX2 HK2 HN2
  go_wp2_with fail
  ((with_reducible refine (add_any w1.heap.size hs0 [] none 0 0 _ HX3.out HN3.out (fun w' hk => Bytes.nil _ _ _) rfl (by omega) (by omega) (by simp only [hs0]; omega)).mono ?_); rintro e w4 ⟨rfl, hx4, hk4⟩)
  have HX4 : Hid (HasherAt w4 w1.heap.size hs0) := Lib.hid hx4
  have HY4 : Hid (HasherAt w4 w2.heap.size hs0) := Lib.hid (HY3.out.keep hk4 (by omega))
  have HK4 : Hid (Same w w4) := Lib.hid (HK3.out.trans hk4 (fun j hj e => by omega))
  have HN4 : Hid (Nums w4) := Lib.hid (HN.out.keep HK4.out (fun e => e))
  have hs4 := hk4.size
  clear hx4 hk4 HX3 HY3
  go_wp2_with fail
  ((with_reducible refine (add_held w1.heap.size hs0 as' ao as'.length c _ HX4.out HN4.out HA.out HK4.out hw1 (by simp only [hs0]; omega)).mono ?_); rintro e w5 ⟨rfl, hx5, hk5⟩)
  have HX5 : Hid (HasherAt w5 w1.heap.size (feed hs0 as')) := Lib.hid hx5
  have HY5 : Hid (HasherAt w5 w2.heap.size hs0) := Lib.hid (HY4.out.keep hk5 (by omega))
  have HK5 : Hid (Same w w5) := Lib.hid (HK4.out.trans hk5 (fun j hj e => by omega))
  have hs5 := hk5.size
  have hn5 := (feed_len hs0 as').2
  clear hx5 hk5 HX4 HY4 HN4
  have HX5a : Hid (HasherAt (w5.alloc (.cells #[] 5)) w1.heap.size (feed hs0 as')) := Lib.hid (HX5.out.keep ((Keeps.refl (fun _ => False) _).alloc _) (fun e => e))
  have HN5a : Hid (Nums (w5.alloc (.cells #[] 5))) := Lib.hid (HN.out.keep (HK5.out.alloc _) (fun e => e))
  have HN0 : Hid ((feed hs0 as').n = as'.length) := Lib.hid (by rw [hn5]; simp [hs0])
  clear hn5
  go_wp2_with fail
  ((with_reducible refine (add_any w1.heap.size (feed hs0 as') [] _ 0 0 _ HX5a.out HN5a.out (fun w' hk => Bytes.nil _ _ _) rfl (by omega) (by omega) (by have := HN0.out; omega)).mono ?_); rintro e w6 ⟨rfl, hx6, hk6⟩)
  have HX6 : Hid (HasherAt w6 w1.heap.size (feed hs0 as')) := Lib.hid hx6
  have HY6 : Hid (HasherAt w6 w2.heap.size hs0) := Lib.hid ((HY5.out.keep ((Keeps.refl (fun _ => False) _).alloc _) (fun e => e)).keep hk6 (by omega))
  have HK6 : Hid (Same w w6) := Lib.hid ((HK5.out.alloc _).trans hk6 (fun j hj e => by omega))
  have HN6 : Hid (Nums w6) := Lib.hid (HN.out.keep HK6.out (fun e => e))
  have hs6 := hk6.size
  simp only [World.size_alloc] at hs6
  clear hx6 hk6 HX5 HY5 HX5a HN5a
  go_wp2_with fail
  ((with_reducible refine (add_held w1.heap.size (feed hs0 as') bs bo bs.length d _ HX6.out HN6.out HB.out HK6.out hw1 (by have := HN0.out; omega)).mono ?_); rintro e w7 ⟨rfl, hx7, hk7⟩)
  have HX7 : Hid (HasherAt w7 w1.heap.size (feed hs0 (as' ++ bs))) := Lib.hid (by rw [feed_append]; exact hx7)
  have HY7 : Hid (HasherAt w7 w2.heap.size hs0) := Lib.hid (HY6.out.keep hk7 (by omega))
  have HK7 : Hid (Same w w7) := Lib.hid (HK6.out.trans hk7 (fun j hj e => by omega))
  have HN7 : Hid (Nums w7) := Lib.hid (HN.out.keep HK7.out (fun e => e))
  have hs7 := hk7.size
  have HNN : Hid ((feed hs0 (as' ++ bs)).n = as'.length + bs.length) := Lib.hid (by rw [(feed_len hs0 (as' ++ bs)).2]; simp [hs0])
  clear hx7 hk7 HX6 HY6 HN6
  go_wp2_with fail
  ((with_reducible refine (add_any w1.heap.size (feed hs0 (as' ++ bs)) [] none 0 0 _ HX7.out HN7.out (fun w' hk => Bytes.nil _ _ _) rfl (by omega) (by omega) (by have := HNN.out; omega)).mono ?_); rintro e w8 ⟨rfl, hx8, hk8⟩)
  have HX8 : Hid (HasherAt w8 w1.heap.size (feed hs0 (as' ++ bs))) := Lib.hid hx8
  have HY8 : Hid (HasherAt w8 w2.heap.size hs0) := Lib.hid (HY7.out.keep hk8 (by omega))
  have HK8 : Hid (Same w w8) := Lib.hid (HK7.out.trans hk8 (fun j hj e => by omega))
  have hs8 := hk8.size
  clear hx8 hk8 HX7 HY7 HN7
  have hbo : (w8.alloc (.cells #[] 5)).ownsRow w8.heap.size 5 1 (.slice (some ⟨w8.heap.size, 0, none⟩) ([] : List UInt8).length 0) ([] : List UInt8).length (u8s []) := by
    have := World.ownsRow_made (base := w8.heap.size) (e := 5) (size := 1) w8 #[] 0 (Nat.le_refl _) (by unfold maxLen; omega) (by simp)
    simpa [u8s] using this
  have HBO := Lib.hid hbo
  have HA8 : Hid (Bytes (w8.alloc (.cells #[] 5)) (.slice ao as'.length c) as') := Lib.hid (HA.out.1.same (HK8.out.alloc _))
  clear hbo
  go_wp2_with (at_builtin; refine wpList_append_bytes_g (by rfl) _ _ 22 5 i0 (by rfl) Tryd.underlying22 hi0 hz0 hz1 hz2 w8.heap.size w8.heap.size 0 [] as' _ (by rfl) (by rfl) HBO.out HA8.out (by simp; omega) (by simp) ?_)
  intro g1 c1 w9 ho9 hg9 hat9
  try simp only [List.length_nil, Nat.zero_add, List.nil_append] at ho9
  try simp only [List.length_nil, Nat.zero_add]
  have hk9 : Same w8 w9 := ((Keeps.refl (fun _ => False) w8).alloc _).grown hg9 (fun k e hk => by simp only [Option.some.injEq] at e; omega)
  have HO9 := Lib.hid ho9
  have HK89 := Lib.hid hk9
  have HK9 : Hid (Same w w9) := Lib.hid (HK8.out.trans hk9 (fun _ _ e => e))
  have HX9 : Hid (HasherAt w9 w1.heap.size (feed hs0 (as' ++ bs))) := Lib.hid (HX8.out.keep hk9 (fun e => e))
  have HY9 : Hid (HasherAt w9 w2.heap.size hs0) := Lib.hid (HY8.out.keep hk9 (fun e => e))
  have hs9 := hk9.size
  have HB9 : Hid (Bytes w9 (.slice bo bs.length d) bs) := Lib.hid (HB.out.1.same HK9.out)
  clear ho9 hg9 hat9 hk9 HBO HA8
  go_wp2_with (at_builtin; refine wpList_append_bytes_g (by rfl) _ _ 22 5 i0 (by rfl) Tryd.underlying22 hi0 hz0 hz1 hz2 w8.heap.size g1 c1 as' bs _ (by rfl) (by rfl) HO9.out HB9.out (by omega) (by omega) ?_)
  intro g2 c2 w10 ho10 hg10 hat10
  have hk10 : Same w8 w10 := (((Keeps.refl (fun _ => False) w8).trans (show Same w8 w9 from HK89.out) (fun _ _ e => e))).grown hg10 (fun k e hk => by simp only [Option.some.injEq] at e; have := (HO9.out.lt g1 rfl).1; omega)
  have HO10 : Hid (w10.ownsRow w8.heap.size 5 1 (.slice (some ⟨g2, 0, none⟩) (as'.length + bs.length) c2) (as' ++ bs).length (u8s (as' ++ bs))) := Lib.hid (by rw [List.length_append]; exact ho10)
  have HK10 : Hid (Same w w10) := Lib.hid (HK8.out.trans hk10 (fun _ _ e => e))
  have HX10 : Hid (HasherAt w10 w1.heap.size (feed hs0 (as' ++ bs))) := Lib.hid (HX8.out.keep hk10 (fun e => e))
  have HY10 : Hid (HasherAt w10 w2.heap.size hs0) := Lib.hid (HY8.out.keep hk10 (fun e => e))
  have hs10 := hk10.size
  have HC2 : Hid (as'.length + bs.length ≤ c2 ∧ c2 ≤ 9223372036854775807) := Lib.hid (by
    rcases ho10.2 with ⟨h, _⟩ | ⟨g, cp, cur, h, _, _, h2, h3, _⟩
    · simp at h
    · simp only [Value.slice.injEq] at h
      unfold maxLen at h3; omega)
  clear ho10 hg10 hat10 hk10
  go_wp2_with fail
  ((with_reducible refine (add_any w2.heap.size hs0 (as' ++ bs) _ (as'.length + bs.length) c2 _ HY10.out (HN.out.keep HK10.out (fun e => e)) (fun w' hk => Bytes.of_own (own_keeps hk HO10.out (fun j e e2 => by have := (HO10.out.lt j e).1; omega))) (by rw [List.length_append]) HC2.out.1 HC2.out.2 (by simp only [hs0]; omega)).mono ?_); rintro e w11 ⟨rfl, hy11, hk11⟩)
  have HY11 := Lib.hid hy11
  have HX11 : Hid (HasherAt w11 w1.heap.size (feed hs0 (as' ++ bs))) := Lib.hid (HX10.out.keep hk11 (by omega))
  have HK11 : Hid (Same w w11) := Lib.hid (HK10.out.trans hk11 (fun j hj e => by omega))
  have hs11 := hk11.size
  clear hy11 hk11 HX10 HY10
  go_wp2_with fail
  ((with_reducible refine (sum_any w1.heap.size (feed hs0 (as' ++ bs)) _ HX11.out (HN.out.keep HK11.out (fun e => e))).mono ?_); rintro e w12 ⟨rfl, hk12⟩)
  have HX12 : Hid (HasherAt w12 w1.heap.size (feed hs0 (as' ++ bs))) := Lib.hid (HX11.out.keep hk12 (fun e => e))
  have HY12 : Hid (HasherAt w12 w2.heap.size (feed hs0 (as' ++ bs))) := Lib.hid (HY11.out.keep hk12 (fun e => e))
  have HK12 : Hid (Same w w12) := Lib.hid (HK11.out.trans hk12 (fun _ _ e => e))
  clear hk12
  go_wp2_with fail
  ((with_reducible refine (sum_any w2.heap.size (feed hs0 (as' ++ bs)) _ HY12.out (HN.out.keep HK12.out (fun e => e))).mono ?_); rintro e w13 ⟨rfl, hk13⟩)
  have HX13 : Hid (HasherAt w13 w1.heap.size (feed hs0 (as' ++ bs))) := Lib.hid (HX12.out.keep hk13 (fun e => e))
  have HK13 : Hid (Same w w13) := Lib.hid (HK12.out.trans hk13 (fun _ _ e => e))
  clear hk13
  have hla := digest_length (feed hs0 (as' ++ bs))
  generalize hdd : digest (feed hs0 (as' ++ bs)) = da at hla ⊢
  have HD := Lib.hid hdd
  have HEQa := Lib.hid (Tryd.hashSame da hla)
  clear hla hdd
  go_wp2_with (refine wpList_eql_same (by rfl) _ _ 25 _ (by rfl) (u8s da).toArray (by rfl) (by rfl) Tryd.hashGuard HEQa.out ?_)
  ((with_reducible refine (sum_any w1.heap.size (feed hs0 (as' ++ bs)) _ HX13.out (HN.out.keep HK13.out (fun e => e))).mono ?_); rintro e w14 ⟨rfl, hk14⟩)
  have HK14 : Hid (Same w w14) := Lib.hid (HK13.out.trans hk14 (fun _ _ e => e))
  rw [HD.out]
  have hbo : (w14.alloc (.cells #[] 5)).ownsRow w14.heap.size 5 1 (.slice (some ⟨w14.heap.size, 0, none⟩) ([] : List UInt8).length 0) ([] : List UInt8).length (u8s []) := by
    have := World.ownsRow_made (base := w14.heap.size) (e := 5) (size := 1) w14 #[] 0 (Nat.le_refl _) (by unfold maxLen; omega) (by simp)
    simpa [u8s] using this
  have HBO := Lib.hid hbo
  have HA8 : Hid (Bytes (w14.alloc (.cells #[] 5)) (.slice ao as'.length c) as') := Lib.hid (HA.out.1.same (HK14.out.alloc _))
  clear hbo hk14
  go_wp2_with (at_builtin; refine wpList_append_bytes_g (by rfl) _ _ 22 5 i0 (by rfl) Tryd.underlying22 hi0 hz0 hz1 hz2 w14.heap.size w14.heap.size 0 [] as' _ (by rfl) (by rfl) HBO.out HA8.out (by simp; omega) (by simp) ?_)
  intro g3 c3 w15 ho15 hg15 hat15
  try simp only [List.length_nil, Nat.zero_add, List.nil_append] at ho15
  try simp only [List.length_nil, Nat.zero_add]
  have hk15 : Same w14 w15 := ((Keeps.refl (fun _ => False) w14).alloc _).grown hg15 (fun k e hk => by simp only [Option.some.injEq] at e; omega)
  have HO15 := Lib.hid ho15
  have HK15 : Hid (Same w w15) := Lib.hid (HK14.out.trans hk15 (fun _ _ e => e))
  have HK145 := Lib.hid hk15
  have hs15 := hk15.size
  have HB15 : Hid (Bytes w15 (.slice bo bs.length d) bs) := Lib.hid (HB.out.1.same HK15.out)
  clear ho15 hg15 hat15 hk15 HBO HA8
  go_wp2_with (at_builtin; refine wpList_append_bytes_g (by rfl) _ _ 22 5 i0 (by rfl) Tryd.underlying22 hi0 hz0 hz1 hz2 w14.heap.size g3 c3 as' bs _ (by rfl) (by rfl) HO15.out HB15.out (by omega) (by omega) ?_)
  intro g4 c4 w16 ho16 hg16 hat16
  have hk16 : Same w14 w16 := HK145.out.grown hg16 (fun k e hk => by simp only [Option.some.injEq] at e; have := (HO15.out.lt g3 rfl).1; omega)
  have HO16 : Hid (Bytes w16 (.slice (some ⟨g4, 0, none⟩) (as'.length + bs.length) c4) (as' ++ bs)) := Lib.hid (Bytes.of_own (by rw [List.length_append]; exact ho16))
  have HK16 : Hid (Same w w16) := Lib.hid (HK14.out.trans hk16 (fun _ _ e => e))
  have HC4 : Hid (as'.length + bs.length ≤ c4 ∧ c4 ≤ 9223372036854775807) := Lib.hid (by
    rcases ho16.2 with ⟨h, _⟩ | ⟨g, cp, cur, h, _, _, h2, h3, _⟩
    · simp at h
    · simp only [Value.slice.injEq] at h
      unfold maxLen at h3; omega)
  clear ho16 hg16 hat16 hk16
  go_wp2_with fail
  ((with_reducible refine (shaSum_d _ (as'.length + bs.length) c4 (as' ++ bs) _ HO16.out (by rw [List.length_append]) HC4.out.1 HC4.out.2 (by omega) (HN.out.keep HK16.out (fun e => e))).mono ?_); rintro e w17 ⟨rfl, hk17⟩)
  have HK17 : Hid (Same w w17) := Lib.hid (HK16.out.trans hk17 (fun _ _ e => e))
  rw [HD.out]
  clear hk17
  go_wp2_with (refine wpList_eql_same (by rfl) _ _ 25 _ (by rfl) (u8s da).toArray (by rfl) (by rfl) Tryd.hashGuard HEQa.out ?_)
  go_ret
  exact ⟨rfl, HK17.out⟩

end Go.Proofs.YtalamolajhihnaaDoor
