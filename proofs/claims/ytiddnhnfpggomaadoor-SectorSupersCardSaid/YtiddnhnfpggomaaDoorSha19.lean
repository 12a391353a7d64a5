/- The document's own Sum. -/
import Derived.Test.YtiddnhnfpggomaaDoorZero32
import Derived.Test.YtiddnhnfpggomaaDoorSha18
namespace Go.Proofs.YtiddnhnfpggomaaDoor
open Go.RowKit
set_option linter.unusedVariables false
set_option linter.unusedSimpArgs false

def z8 : List Value := u32s (List.replicate 8 0)
theorem Tryd.zero8 (w : World) : (zeroValue 80).run Tryd.prog w = .ok (.agg z8.toArray) w := by kernel_rfl
theorem size8' (s : St) : z8.toArray.size = (u32s s.list).toArray.size := by rfl

set_option maxRecDepth 100000 in
set_option maxHeartbeats 51200000 in
theorem rsum_any (ao : Option Addr) (n cap : Nat) (bs : List UInt8) (w : World) (hb : Bytes w (.slice ao n cap) bs) (hn : bs.length = n) (hl : n ≤ 900000) :
    Calls Tryd.prog 32 #[.slice ao n cap] w fun e w' => e = .returned (.agg (u8s (digest (feed hs0 bs))).toArray) ∧ Same w w' := by
  have hz64 := Tryd.zero64
  have hz8 := Tryd.zero8
  have hz32 := Tryd.zero32
  have HB := Lib.hid hb
  have HN := Lib.hid hn
  have HI64 := Lib.hid (Tryd.size64 roundKs roundKs_length)
  have HS64 := Lib.hid (size64' (List.replicate 64 0) roundKs (by rw [roundKs_length]; simp))
  have HI8 := Lib.hid (Tryd.size8 st0)
  have HS8 := Lib.hid (size8' st0)
  clear hb hn
  go_enter Tryd.func32, Tryd.ntmps32
  go_wp2_with fail
  ((with_reducible refine (rconstants _).mono ?_); rintro e w1 ⟨rfl, hk1⟩)
  have hs1 := hk1.size
  simp only [World.size_alloc] at hs1
  have HR1 : Hid (Whole w1 w.heap.size 32 z32) := Lib.hid (Whole.keep (w := w.alloc (.cells z32.toArray 32)) (heap_alloc_new w _) hk1 (fun e => e))
  have HK1 : Hid (Same w w1) := Lib.hid (((Keeps.refl _ _).alloc _).trans hk1 (fun _ _ e => e))
  have HN1 : Hid ((w1.alloc (.cells z64.toArray 78)).heap[w1.heap.size]? = some (.cells (u32s (List.replicate 64 0)).toArray 78 (0, 0))) := Lib.hid (heap_alloc_new w1 _)
  clear hk1
  obtain ⟨w2, hw2⟩ : ∃ w2, (w1.alloc (.cells z64.toArray 78)).setRow w1.heap.size (u32s roundKs).toArray = w2 := ⟨_, rfl⟩
  have HKK2 : Hid (Whole w2 w1.heap.size 78 (u32s roundKs)) := Lib.hid (by rw [← hw2]; exact Whole.row (cs := z64) (heap_alloc_new w1 _))
  have hk12 : Same w1 w2 := by rw [← hw2]; exact ((Keeps.refl _ _).alloc _).setRow _ _ (.inl (Nat.le_refl _))
  have HK2 : Hid (Same w w2) := Lib.hid (HK1.out.trans hk12 (fun _ _ e => e))
  have HR2 : Hid (Whole w2 w.heap.size 32 z32) := Lib.hid (HR1.out.keep hk12 (fun e => e))
  have hs2 : w1.heap.size + 1 = w2.heap.size := by rw [← hw2]; simp
  have HN2 : Hid ((w2.alloc (.cells z8.toArray 80)).heap[w2.heap.size]? = some (.cells z8.toArray 80 (0, 0))) := Lib.hid (heap_alloc_new w2 _)
  have HW2 := Lib.hid hw2
  clear hk12 hw2
  have hs3 : w2.heap.size < (w2.alloc (.cells z8.toArray 80)).heap.size := by simp
  obtain ⟨w3, hw3⟩ : ∃ w3, (w2.alloc (.cells z8.toArray 80)).setRow w2.heap.size (u32s st0.list).toArray = w3 := ⟨_, rfl⟩
  have HH3 : Hid (Whole w3 w2.heap.size 80 (u32s st0.list)) := Lib.hid (by rw [← hw3]; exact Whole.row (cs := z8) (heap_alloc_new w2 _))
  have hk23 : Same w2 w3 := by rw [← hw3]; exact ((Keeps.refl _ _).alloc _).setRow _ _ (.inl (Nat.le_refl _))
  have HK3 : Hid (Same w w3) := Lib.hid (HK2.out.trans hk23 (fun _ _ e => e))
  have HR3 : Hid (Whole w3 w.heap.size 32 z32) := Lib.hid (HR2.out.keep hk23 (fun e => e))
  have HKK3 : Hid (Whole w3 w1.heap.size 78 (u32s roundKs)) := Lib.hid (HKK2.out.keep hk23 (fun e => e))
  have HW3 := Lib.hid hw3
  have HB3 : Hid (Bytes w3 (.slice ao n cap) bs) := Lib.hid (HB.out.same HK3.out)
  clear hk23 hw3 hs3
  go_wp2_with (first
    | (refine wpList_buildTo (by rfl) 80 _ (by rfl) _ (by rfl) (u32s st0.list).toArray (by kernel_rfl) ?_)
    | (refine wpList_store_row (by rfl) 78 _ _ (by rfl) w1.heap.size (u32s roundKs).toArray (by rfl) (by rfl) 78 (u32s (List.replicate 64 0)).toArray HN1.out HI64.out HS64.out (u32s_all _) ?_; rw [HW2.out])
    | (refine wpList_store_row (by rfl) 80 _ _ (by rfl) w2.heap.size (u32s st0.list).toArray (by rfl) (by rfl) 80 z8.toArray HN2.out HI8.out HS8.out (u32s_all _) ?_; rw [HW3.out]))
  ((with_reducible refine (pad_any ao n cap bs _ HB3.out HN.out (by omega)).mono ?_); rintro e w4 ⟨g, c, rfl, hp4, hk4⟩)
  obtain ⟨m, hm, hm0⟩ := pad_chunks bs
  have hlm : n + 1 + zn n + 8 = 64 * m := by rw [← hm, padOf_length, HN.out]
  have hm1 : m ≤ 20000 := by have := zn_small n; omega
  rw [hlm] at hp4 ⊢
  have HEND : Hid (stAt (padOf bs) m = (finish (feed hs0 bs)).s) := Lib.hid (stAt_end bs m hm)
  have HPL : Hid ((padOf bs).length = 64 * m) := Lib.hid hm
  have HST : Hid (stAt (padOf bs) 0 = st0) := Lib.hid (stAt_zero _)
  generalize padOf bs = p at *
  have HP4 := Lib.hid hp4
  have HCP := Lib.hid (own_cap hp4)
  have hgl := (hp4.lt g rfl).1
  have hs23 : w2.heap.size < w3.heap.size := HH3.out.lt
  have HK4 : Hid (Same w w4) := Lib.hid (HK3.out.trans hk4 (fun _ _ e => e))
  have HR4 : Hid (Whole w4 w.heap.size 32 z32) := Lib.hid (HR3.out.keep hk4 (fun e => e))
  have HKK4 : Hid (Whole w4 w1.heap.size 78 (u32s roundKs)) := Lib.hid (HKK3.out.keep hk4 (fun e => e))
  have HH4 : Hid (Whole w4 w2.heap.size 80 (u32s st0.list)) := Lib.hid (HH3.out.keep hk4 (fun e => e))
  have hs34 := hk4.size
  clear hp4 hk4 hm hlm HR1 HR2 HR3 HKK2 HKK3 HH3 HN1 HN2 HW2 HW3 HK1 HK2 HK3 HB3 HI8 HS8
  obtain ⟨R, hR⟩ : ∃ R, w.heap.size = R := ⟨_, rfl⟩
  obtain ⟨Kb, hKb⟩ : ∃ K, w1.heap.size = K := ⟨_, rfl⟩
  obtain ⟨Hb, hHb⟩ : ∃ H, w2.heap.size = H := ⟨_, rfl⟩
  obtain ⟨Pb, hPb⟩ : ∃ P, w3.heap.size = P := ⟨_, rfl⟩
  rw [hR] at HR4
  rw [hKb] at HKK4
  rw [hHb] at HH4
  rw [hPb] at HP4
  have HRW : Hid (w.heap.size = R) := Lib.hid hR
  rw [hR, hKb, hHb]
  rw [hR, hKb] at hs1
  rw [hKb, hHb] at hs2
  rw [hHb, hPb] at hs23
  rw [hPb] at hs34 hgl
  obtain ⟨Lm, hLm⟩ : ∃ L, 64 * m = L := ⟨_, rfl⟩
  rw [hLm] at HP4 HCP HPL ⊢
  clear hR hKb hHb hPb
  go_wp2
  go_loopw [6, 7, 8, 9, 10, 11, 12, 13, 14, 15, 16, 17, 18, 19, 20, 21, 22, 23, 24, 25, 26, 27] (fun i _ _ _ _ _ _ _ _ _ _ _ _ _ _ _ _ _ _ _ _ _ wr => ∃ k : Nat, k ≤ m ∧ i = .int .i64 ((64 * k : Nat) : Int) ∧ Whole wr Hb 80 (u32s (stAt p k).list) ∧ Keeps (fun j => j = Hb) w4 wr) (fun i _ _ _ _ _ _ _ _ _ _ _ _ _ _ _ _ _ _ _ _ _ _ => m - (intOf i).toNat / 64)
  case atStart => exact ⟨0, by omega, rfl, by rw [HST.out]; exact HH4.out, Keeps.refl _ _⟩
  case round =>
    clear HH4
    obtain ⟨k, hk, rfl, hx, hs⟩ := hrel
    obtain ⟨wo, rfl⟩ : ∃ wo : World, wo = wr := ⟨_, rfl⟩
    have HX := Lib.hid hx
    have HS := Lib.hid hs
    have hws := hs.size
    clear hx hs
    by_cases hkm : k < m
    · have hkm2 : ((64 * k : Nat) : Int) < (Lm : Int) := by omega
      obtain ⟨at0, hat⟩ : ∃ a, 64 * k = a := ⟨_, rfl⟩
      obtain ⟨ch, hch⟩ : ∃ ch, (p.drop (64 * k)).take 64 = ch := ⟨_, rfl⟩
      have HCH : Hid (∀ j, j < 64 → ch.getD j 0 = p.getD (at0 + j) 0) := Lib.hid fun j hj => by rw [← hch, ← hat]; exact chunk_getD p k j hj (by rw [HPL.out]; omega)
      have HNX : Hid (stAt p (k + 1) = mixed (stAt p k) ch) := Lib.hid (by rw [← hch]; exact stAt_succ p k (by rw [HPL.out]; omega))
      clear hch
      rw [hat] at hkm2 ⊢
      have HN5 : Hid ((wo.alloc (.cells z64.toArray 78)).heap[wo.heap.size]? = some (.cells z64.toArray 78 (0, 0))) := Lib.hid (heap_alloc_new wo _)
      have HI5 := Lib.hid (Tryd.size64 (List.replicate 64 0) (by simp))
      obtain ⟨w5, hw5⟩ : ∃ w5, (wo.alloc (.cells z64.toArray 78)).setRow wo.heap.size z64.toArray = w5 := ⟨_, rfl⟩
      have HX5 : Hid (Whole w5 wo.heap.size 78 (u32s (wAt ch 0))) := Lib.hid (by rw [← hw5]; exact Whole.row (cs := z64) (ds := z64) (heap_alloc_new wo _))
      have HS5 : Hid (Same wo w5) := Lib.hid (by rw [← hw5]; exact ((Keeps.refl _ _).alloc _).setRow _ _ (.inl (Nat.le_refl _)))
      have HW5 := Lib.hid hw5
      clear hw5
      go_wp2_with (first
        | (refine wpList_buildTo (by rfl) 78 _ (by rfl) _ (by rfl) z64.toArray (by kernel_rfl) ?_)
        | (refine wpList_store_row (by rfl) 78 _ _ (by rfl) wo.heap.size z64.toArray (by rfl) (by rfl) 78 z64.toArray HN5.out HI5.out rfl (u32s_all _) ?_; rw [HW5.out]))
      obtain ⟨Wb, hWb⟩ : ∃ W, wo.heap.size = W := ⟨_, rfl⟩
      rw [hWb] at HX5 hws ⊢
      have HWB : Hid (wo.heap.size = Wb) := Lib.hid hWb
      clear HN5 HI5 HW5 hWb
      go_loopw [8, 9, 10, 11, 12, 13] (fun i _ _ _ _ _ wr => ∃ t : Nat, t ≤ 64 ∧ i = .int .i64 t ∧ Whole wr Wb 78 (u32s (wAt ch t)) ∧ Same wo wr) (fun i _ _ _ _ _ _ => 64 - (intOf i).toNat)
      case atStart => exact ⟨0, by omega, rfl, HX5.out, HS5.out⟩
      case round =>
        clear HX5 HS5
        obtain ⟨t, ht, rfl, hx, hs⟩ := hrel
        obtain ⟨w6, rfl⟩ : ∃ w6 : World, w6 = wr := ⟨_, rfl⟩
        have HX6 := Lib.hid hx
        have HS6 := Lib.hid hs
        have hw6 := hx.lt
        clear hx hs
        by_cases ht64 : t < 64
        · obtain ⟨xd, cd⟩ := wAt_any HX6.out ht64
          have fd := HX6.out.free t
          have ti64 : (t : Int) < 64 := by omega
          have ti0 : (0 : Int) ≤ (t : Int) := by omega
          have HNEXT : Hid ((wAt ch t).set t ((sched ch 48).getD t 0) = wAt ch (t + 1)) := Lib.hid (wAt_succ ch t ht64)
          by_cases ht16 : t < 16
          · have HP6 : w6.ownsRow Pb 5 1 (.slice (some ⟨g, 0, none⟩) Lm c) Lm (u8s p) := own_keeps (HS.out.trans HS6.out (fun j hj e => e.elim)) HP4.out (fun j e e2 => by simp only [Value.ownBlock, Option.some.injEq] at e; omega)
            obtain ⟨q, hq⟩ : ∃ q : Nat, at0 + 4 * t = q := ⟨_, rfl⟩
            have c0 := (own_cell HP6 q (by omega)).1
            have c1 := (own_cell HP6 (q + 1) (by omega)).1
            have c2 := (own_cell HP6 (q + 2) (by omega)).1
            have c3 := (own_cell HP6 (q + 3) (by omega)).1
            have HWORD : Hid ((sched ch 48).getD t 0 = word4 (p.getD q 0) (p.getD (q + 1) 0) (p.getD (q + 2) 0) (p.getD (q + 3) 0)) := Lib.hid (by
              rw [sched_low ch t ht16, HCH.out _ (by omega), HCH.out _ (by omega), HCH.out _ (by omega), HCH.out _ (by omega), ← hq]
              rfl)
            rw [ext_wn] at c0 c1 c2 c3
            have x0 := ext_small (p.getD q 0)
            have x1 := ext_small (p.getD (q + 1) 0)
            have x2 := ext_small (p.getD (q + 2) 0)
            have x3 := ext_small (p.getD (q + 3) 0)
            generalize p.getD q 0 = b0 at *
            generalize p.getD (q + 1) 0 = b1 at *
            generalize p.getD (q + 2) 0 = b2 at *
            generalize p.getD (q + 3) 0 = b3 at *
            have y0 := (wn_bound (ext b0)).1
            have y1 := (wn_bound (ext b1)).1
            have y2 := (wn_bound (ext b2)).1
            have y3 := (wn_bound (ext b3)).1
            have v4 : IntKind.i64.wrap (4 * (t : Int)) = 4 * (t : Int) := IntWalk.i64_in _ (by omega)
            have v5 : IntKind.i64.wrap ((at0 : Int) + 4 * (t : Int)) = (q : Int) := by rw [IntWalk.i64_in _ (by omega)]; omega
            have v6 : IntKind.i64.wrap ((q : Int) + 1) = (q : Int) + 1 := IntWalk.i64_in _ (by omega)
            have v7 : IntKind.i64.wrap ((q : Int) + 2) = (q : Int) + 2 := IntWalk.i64_in _ (by omega)
            have v8 : IntKind.i64.wrap ((q : Int) + 3) = (q : Int) + 3 := IntWalk.i64_in _ (by omega)
            have p0 : (0 : Int) ≤ (q : Int) := by omega
            have q0 : (q : Int) < (Lm : Int) := by omega
            have p1 : (0 : Int) ≤ (q : Int) + 1 := by omega
            have q1 : (q : Int) + 1 < (Lm : Int) := by omega
            have p2 : (0 : Int) ≤ (q : Int) + 2 := by omega
            have q2 : (q : Int) + 2 < (Lm : Int) := by omega
            have p3 : (0 : Int) ≤ (q : Int) + 3 := by omega
            have q3 : (q : Int) + 3 < (Lm : Int) := by omega
            have t0 : (q : Int).toNat = q := by omega
            have t1 : ((q : Int) + 1).toNat = q + 1 := by omega
            have t2 : ((q : Int) + 2).toNat = q + 2 := by omega
            have t3 : ((q : Int) + 3).toNat = q + 3 := by omega
            have ti16 : (t : Int) < 16 := by omega
            clear HP6 hq
            go_wp2
            go_still_tail 31, (by kernel_rfl)
            change wpList _ _ _ _ _ w6.drew
            clear c0 c1 c2 c3 x0 x1 x2 x3 y0 y1 y2 y3 v4 v5 v6 v7 v8 p0 q0 p1 q1 p2 q2 p3 q3 t0 t1 t2 t3
            simp only [wrap_wn, w_shl24, w_shl16, w_shl8, w_or]
            go_wp2
            go_roundw
            case rel =>
              refine ⟨t + 1, by omega, by go_num, ?_, (HS6.out.setCell _ _ (.inl (by rw [HWB.out]; exact Nat.le_refl _))).drew⟩
              rw [← HNEXT.out, u32s_set, HWORD.out]
              exact HX6.out.set _ _
            case measure => simp [intOf]; omega
          · obtain ⟨j, hj⟩ : ∃ j : Nat, t - 16 = j := ⟨_, rfl⟩
            have htj : t = 16 + j := by omega
            have c16 := wAt_cell HX6.out ht (j := j) (by omega)
            have c15 := wAt_cell HX6.out ht (j := j + 1) (by omega)
            have c7 := wAt_cell HX6.out ht (j := j + 9) (by omega)
            have c2 := wAt_cell HX6.out ht (j := j + 14) (by omega)
            have HWORD : Hid ((sched ch 48).getD t 0 = (((sched ch 48).getD j 0 + sig0 ((sched ch 48).getD (j + 1) 0)) + (sched ch 48).getD (j + 9) 0) + sig1 ((sched ch 48).getD (j + 14) 0)) := Lib.hid (by rw [htj]; exact sched_high ch j (by omega))
            generalize (sched ch 48).getD t 0 = xt at *
            generalize (sched ch 48).getD j 0 = x16 at *
            generalize (sched ch 48).getD (j + 1) 0 = x15 at *
            generalize (sched ch 48).getD (j + 9) 0 = x7 at *
            generalize (sched ch 48).getD (j + 14) 0 = x2 at *
            have s15 : IntKind.i64.wrap ((t : Int) - 15) = (t : Int) - 15 := IntWalk.i64_in _ (by omega)
            have s2 : IntKind.i64.wrap ((t : Int) - 2) = (t : Int) - 2 := IntWalk.i64_in _ (by omega)
            have s16 : IntKind.i64.wrap ((t : Int) - 16) = (t : Int) - 16 := IntWalk.i64_in _ (by omega)
            have s7 : IntKind.i64.wrap ((t : Int) - 7) = (t : Int) - 7 := IntWalk.i64_in _ (by omega)
            have p15 : (0 : Int) ≤ (t : Int) - 15 := by omega
            have p2 : (0 : Int) ≤ (t : Int) - 2 := by omega
            have p16 : (0 : Int) ≤ (t : Int) - 16 := by omega
            have p7 : (0 : Int) ≤ (t : Int) - 7 := by omega
            have q15 : (t : Int) - 15 < 64 := by omega
            have q2 : (t : Int) - 2 < 64 := by omega
            have q16 : (t : Int) - 16 < 64 := by omega
            have q7 : (t : Int) - 7 < 64 := by omega
            have t15 : ((t : Int) - 15).toNat = j + 1 := by omega
            have t2 : ((t : Int) - 2).toNat = j + 14 := by omega
            have t16 : ((t : Int) - 16).toNat = j := by omega
            have t7 : ((t : Int) - 7).toNat = j + 9 := by omega
            have v15 : (15 : Int) ≤ (t : Int) := by omega
            have v2 : (2 : Int) ≤ (t : Int) := by omega
            have v16 : (16 : Int) ≤ (t : Int) := by omega
            have v7 : (7 : Int) ≤ (t : Int) := by omega
            have nt16 : ¬ (t : Int) < 16 := by omega
            clear hj htj
            go_wp2
            go_quiet (fail)
            go_wp2_with fail
            obtain ⟨wz, hwz⟩ : ∃ wz, World.drewN w6 nq = wz := ⟨_, rfl⟩
            rw [hwz]
            have c16 : wz.cell? ⟨Wb, j, none⟩ = some (.int .u32 (wn x16)) := by rw [← hwz]; exact c16
            have c7 : wz.cell? ⟨Wb, j + 9, none⟩ = some (.int .u32 (wn x7)) := by rw [← hwz]; exact c7
            have cd : wz.cell? ⟨Wb, t, none⟩ = some (.int .u32 (wn xd)) := by rw [← hwz]; exact cd
            have fd : wz.frozen? ⟨Wb, t, none⟩ = false := by rw [← hwz]; exact fd
            have HX6 : Hid (Whole wz Wb 78 (u32s (wAt ch t))) := Lib.hid (by rw [← hwz]; exact HX6.out)
            have HS6 : Hid (Same wo wz) := Lib.hid (by rw [← hwz]; exact HS6.out.drewN nq)
            clear hwz
            ((with_reducible refine (rrot7 x15 _).mono ?_); rintro e wy ⟨rfl, hwy⟩; subst hwy)
            go_wp2_with fail
            ((with_reducible refine (rrot18 x15 _).mono ?_); rintro e wy ⟨rfl, hwy⟩; subst hwy)
            go_wp2_with fail
            ((with_reducible refine (rrot17 x2 _).mono ?_); rintro e wy ⟨rfl, hwy⟩; subst hwy)
            go_wp2_with fail
            ((with_reducible refine (rrot19 x2 _).mono ?_); rintro e wy ⟨rfl, hwy⟩; subst hwy)
            go_wp2_with fail
            simp only [w_shr3, w_shr10, w_xor]
            go_still_tail 15, (by kernel_rfl)
            change wpList _ _ _ _ _ wy.drew
            simp only [w_wrap_add]
            go_wp2
            go_roundw
            case rel =>
              refine ⟨t + 1, by omega, by go_num, ?_, (HS6.out.setCell _ _ (.inl (by rw [HWB.out]; exact Nat.le_refl _))).drew⟩
              rw [← HNEXT.out, u32s_set, HWORD.out]
              exact HX6.out.set _ _
            case measure => simp [intOf]; omega
        · obtain rfl : t = 64 := by omega
          have HW6 : Hid (Whole w6 Wb 78 (u32s (sched ch 48))) := Lib.hid (by rw [← wAt_all]; exact HX6.out)
          have HH6 : Hid (Whole w6 Hb 80 (u32s (stAt p k).list)) := Lib.hid (HX.out.keep HS6.out (fun e => e))
          clear HX6 HX
          generalize stAt p k = s at *
          have HI6 := Lib.hid (Tryd.size8 s)
          have HN6 : Hid ((w6.alloc (.cells z8.toArray 80)).heap[w6.heap.size]? = some (.cells z8.toArray 80 (0, 0))) := Lib.hid (heap_alloc_new w6 _)
          obtain ⟨w7, hw7⟩ : ∃ w7, (w6.alloc (.cells z8.toArray 80)).setRow w6.heap.size (u32s s.list).toArray = w7 := ⟨_, rfl⟩
          have HV7 : Hid (Whole w7 w6.heap.size 80 (u32s s.list)) := Lib.hid (by rw [← hw7]; exact Whole.row (cs := z8) (heap_alloc_new w6 _))
          have hk67 : Same w6 w7 := by rw [← hw7]; exact ((Keeps.refl _ _).alloc _).setRow _ _ (.inl (Nat.le_refl _))
          have HW7 : Hid (Whole w7 Wb 78 (u32s (sched ch 48))) := Lib.hid (HW6.out.keep hk67 (fun e => e))
          have HH7 : Hid (Whole w7 Hb 80 (u32s s.list)) := Lib.hid (HH6.out.keep hk67 (fun e => e))
          have HS7 : Hid (Keeps (fun j => j = Hb) w4 w7) := Lib.hid ((HS.out.trans HS6.out (fun j hj e => e.elim)).trans hk67 (fun j hj e => e.elim))
          have HQ7 := Lib.hid hw7
          have HHZ : Hid (z8.toArray.size = (u32s s.list).toArray.size) := Lib.hid (size8' s)
          clear hk67 hw7
          go_wp2_with (first
            | (refine wpList_load_row (by rfl) 80 _ (by rfl) Hb (by rfl) 80 (u32s s.list).toArray (0, 0) _ HH6.out Tryd.underlying80 rfl HI6.out ?_)
            | (refine wpList_store_row (by rfl) 80 _ _ (by rfl) w6.heap.size (u32s s.list).toArray (by rfl) (by rfl) 80 z8.toArray HN6.out HI6.out HHZ.out (u32s_all _) ?_; rw [HQ7.out]))
          obtain ⟨Vb, hVb⟩ : ∃ V, w6.heap.size = V := ⟨_, rfl⟩
          rw [hVb] at HV7 hw6 ⊢
          have hv7 := HV7.out.lt
          clear HN6 HQ7 HHZ HH6 HW6 HS6 hVb
          go_loopw [15, 16, 17, 18, 19, 20, 21, 22, 23, 24, 25, 26] (fun i _ _ _ _ _ _ _ _ _ _ _ wr => ∃ t : Nat, t ≤ 64 ∧ i = .int .i64 t ∧ ∃ r : St, r = rounds s (sched ch 48) t ∧ Whole wr Vb 80 (u32s r.list) ∧ Keeps (fun j => j = Vb) w7 wr) (fun i _ _ _ _ _ _ _ _ _ _ _ _ => 64 - (intOf i).toNat)
          case atStart => exact ⟨0, by omega, rfl, s, rfl, HV7.out, Keeps.refl _ _⟩
          case round =>
            clear HV7
            obtain ⟨t, ht, rfl, r, hr, hx, hs⟩ := hrel
            obtain ⟨w8, rfl⟩ : ∃ w8 : World, w8 = wr := ⟨_, rfl⟩
            have HRR := Lib.hid hr
            have HX8 := Lib.hid hx
            have HS8 := Lib.hid hs
            clear hr hx hs
            by_cases ht64 : t < 64
            · have d0 : w8.cell? ⟨Vb, 0, none⟩ = some (.int .u32 (wn r.a)) := list_cell HX8.out 0 (by omega)
              have d1 : w8.cell? ⟨Vb, 1, none⟩ = some (.int .u32 (wn r.b)) := list_cell HX8.out 1 (by omega)
              have d2 : w8.cell? ⟨Vb, 2, none⟩ = some (.int .u32 (wn r.c)) := list_cell HX8.out 2 (by omega)
              have d3 : w8.cell? ⟨Vb, 3, none⟩ = some (.int .u32 (wn r.d)) := list_cell HX8.out 3 (by omega)
              have d4 : w8.cell? ⟨Vb, 4, none⟩ = some (.int .u32 (wn r.e)) := list_cell HX8.out 4 (by omega)
              have d5 : w8.cell? ⟨Vb, 5, none⟩ = some (.int .u32 (wn r.f)) := list_cell HX8.out 5 (by omega)
              have d6 : w8.cell? ⟨Vb, 6, none⟩ = some (.int .u32 (wn r.g)) := list_cell HX8.out 6 (by omega)
              have d7 : w8.cell? ⟨Vb, 7, none⟩ = some (.int .u32 (wn r.h)) := list_cell HX8.out 7 (by omega)
              have ck : w8.cell? ⟨Kb, t, none⟩ = some (.int .u32 (wn (roundKs.getD t 0))) := by
                refine ((HKK4.out.keep HS7.out (by omega)).keep HS8.out (by omega)).cell ?_
                rw [u32s_get _ _ (by rw [roundKs_length]; omega)]
                simp [List.getD, show t < roundKs.length from by rw [roundKs_length]; omega]
              have cw : w8.cell? ⟨Wb, t, none⟩ = some (.int .u32 (wn ((sched ch 48).getD t 0))) := by
                refine (HW7.out.keep HS8.out (by omega)).cell ?_
                rw [u32s_get _ _ (by rw [sched_length]; omega)]
                simp [List.getD, show t < (sched ch 48).length from by rw [sched_length]; omega]
              have HR2 : Hid (rounds s (sched ch 48) (t + 1) = step r (roundKs.getD t 0) ((sched ch 48).getD t 0)) := Lib.hid (by rw [HRR.out]; rfl)
              generalize roundKs.getD t 0 = kk at *
              generalize (sched ch 48).getD t 0 = xx at *
              have ti64 : (t : Int) < 64 := by omega
              have ti0 : (0 : Int) ≤ (t : Int) := by omega
              go_wp2
              go_quiet (fail)
              go_wp2_with fail
              obtain ⟨wz, hwz⟩ : ∃ wz, World.drewN w8 nq = wz := ⟨_, rfl⟩
              rw [hwz]
              have d3 : wz.cell? ⟨Vb, 3, none⟩ = some (.int .u32 (wn r.d)) := by rw [← hwz]; exact d3
              have d7 : wz.cell? ⟨Vb, 7, none⟩ = some (.int .u32 (wn r.h)) := by rw [← hwz]; exact d7
              have ck : wz.cell? ⟨Kb, t, none⟩ = some (.int .u32 (wn kk)) := by rw [← hwz]; exact ck
              have cw : wz.cell? ⟨Wb, t, none⟩ = some (.int .u32 (wn xx)) := by rw [← hwz]; exact cw
              have HX8 : Hid (Whole wz Vb 80 (u32s r.list)) := Lib.hid (by rw [← hwz]; exact HX8.out)
              have HS8 : Hid (Keeps (fun j => j = Vb) w7 wz) := Lib.hid (by rw [← hwz]; exact HS8.out.drewN nq)
              clear hwz d0 d1 d2 d4 d5 d6
              ((with_reducible refine (rrot6 r.e _).mono ?_); rintro e wy ⟨rfl, hwy⟩; subst hwy)
              go_wp2_with fail
              ((with_reducible refine (rrot11 r.e _).mono ?_); rintro e wy ⟨rfl, hwy⟩; subst hwy)
              go_wp2_with fail
              ((with_reducible refine (rrot25 r.e _).mono ?_); rintro e wy ⟨rfl, hwy⟩; subst hwy)
              go_wp2_with fail
              simp only [w_not, w_and, w_xor]
              go_quiet (fail)
              go_wp2_with fail
              simp only [w_add, w_add3, w_add4]
              obtain ⟨wv, hwv⟩ : ∃ wv, World.drewN wy nq = wv := ⟨_, rfl⟩
              rw [hwv]
              have d3 : wv.cell? ⟨Vb, 3, none⟩ = some (.int .u32 (wn r.d)) := by rw [← hwv]; exact d3
              have HX8 : Hid (Whole wv Vb 80 (u32s r.list)) := Lib.hid (by rw [← hwv]; exact HX8.out)
              have HS8 : Hid (Keeps (fun j => j = Vb) w7 wv) := Lib.hid (by rw [← hwv]; exact HS8.out.drewN nq)
              clear hwv d7 ck cw
              ((with_reducible refine (rrot2 r.a _).mono ?_); rintro e wy ⟨rfl, hwy⟩; subst hwy)
              go_wp2_with fail
              ((with_reducible refine (rrot13 r.a _).mono ?_); rintro e wy ⟨rfl, hwy⟩; subst hwy)
              go_wp2_with fail
              ((with_reducible refine (rrot22 r.a _).mono ?_); rintro e wy ⟨rfl, hwy⟩; subst hwy)
              have HST2 : Hid ((St.mk ((((((r.h + ((rr r.e 6 ^^^ rr r.e 11) ^^^ rr r.e 25)) + ((r.e &&& r.f) ^^^ (~~~ r.e &&& r.g))) + kk) + xx) + ((rr r.a 2 ^^^ rr r.a 13) ^^^ rr r.a 22)) + (((r.a &&& r.b) ^^^ (r.a &&& r.c)) ^^^ (r.b &&& r.c))) r.a r.b r.c (r.d + ((((r.h + ((rr r.e 6 ^^^ rr r.e 11) ^^^ rr r.e 25)) + ((r.e &&& r.f) ^^^ (~~~ r.e &&& r.g))) + kk) + xx)) r.e r.f r.g) = step r kk xx) := Lib.hid (step_ref r kk xx)
              have HI8 := Lib.hid (Tryd.size8 (step r kk xx))
              have HEN9 : Hid (Whole (wy.setRow Vb (u32s (step r kk xx).list).toArray) Vb 80 (u32s (step r kk xx).list) ∧ Keeps (fun j => j = Vb) w7 (wy.setRow Vb (u32s (step r kk xx).list).toArray)) := Lib.hid ⟨HX8.out.row, HS8.out.setRow _ _ (.inr rfl)⟩
              go_wp2_with (first
                | (simp only [w_and, w_xor, w_add]; refine wpList_buildTo (by rfl) 80 _ (by rfl) _ (by rfl) (u32s (St.mk ((((((r.h + ((rr r.e 6 ^^^ rr r.e 11) ^^^ rr r.e 25)) + ((r.e &&& r.f) ^^^ (~~~ r.e &&& r.g))) + kk) + xx) + ((rr r.a 2 ^^^ rr r.a 13) ^^^ rr r.a 22)) + (((r.a &&& r.b) ^^^ (r.a &&& r.c)) ^^^ (r.b &&& r.c))) r.a r.b r.c (r.d + ((((r.h + ((rr r.e 6 ^^^ rr r.e 11) ^^^ rr r.e 25)) + ((r.e &&& r.f) ^^^ (~~~ r.e &&& r.g))) + kk) + xx)) r.e r.f r.g).list).toArray (by kernel_rfl) ?_; rw [HST2.out])
                | (refine wpList_store_row (by rfl) 80 _ _ (by rfl) Vb (u32s (step r kk xx).list).toArray (by rfl) (by rfl) 80 (u32s r.list).toArray HX8.out HI8.out rfl (u32s_all _) ?_))
              go_roundw
              case rel => exact ⟨t + 1, by omega, by go_num, step r kk xx, HR2.out.symm, HEN9.out.1, HEN9.out.2⟩
              case measure => simp [intOf]; omega
            · obtain rfl : t = 64 := by omega
              have HXX : Hid (s.add r = mixed s ch) := Lib.hid (by rw [HRR.out]; rfl)
              have HH8 : Hid (Whole w8 Hb 80 (u32s (addUp s r 0))) := Lib.hid (HH7.out.keep HS8.out (by omega))
              have HS9 : Hid (Keeps (fun j => j = Hb) w4 w8) := Lib.hid (HS7.out.trans HS8.out (fun j hj e => by omega))
              clear HRR HH7 HS7 HS8 HW7
              go_wp2
              go_loopw [27] (fun i wr => ∃ q : Nat, q ≤ 8 ∧ i = .int .i64 q ∧ Whole wr Hb 80 (u32s (addUp s r q)) ∧ Keeps (fun j => j = Hb) w8 wr) (fun i _ => 8 - (intOf i).toNat)
              case atStart => exact ⟨0, by omega, rfl, HH8.out, Keeps.refl _ _⟩
              case round =>
                clear HH8
                obtain ⟨q, hq, rfl, hx, hs⟩ := hrel
                obtain ⟨w9, rfl⟩ : ∃ w9 : World, w9 = wr := ⟨_, rfl⟩
                have HX9 := Lib.hid hx
                have HSA := Lib.hid hs
                clear hx hs
                by_cases hq8 : q < 8
                · have cx : w9.cell? ⟨Hb, q, none⟩ = some (.int .u32 (wn (s.list.getD q 0))) := HX9.out.cell (by rw [u32s, List.getElem?_map, addUp_get s r q hq8]; rfl)
                  have fx := HX9.out.free q
                  have cv : w9.cell? ⟨Vb, q, none⟩ = some (.int .u32 (wn (r.list.getD q 0))) := list_cell (HX8.out.keep HSA.out (by omega)) q hq8
                  have HA : Hid ((addUp s r q).set q (s.list.getD q 0 + r.list.getD q 0) = addUp s r (q + 1)) := Lib.hid (addUp_set s r q hq8)
                  generalize s.list.getD q 0 = x1 at *
                  generalize r.list.getD q 0 = x2 at *
                  have hq2 : (q : Int) < 8 := by omega
                  have hq0 : (0 : Int) ≤ (q : Int) := by omega
                  go_wp2
                  go_still_tail 8, (by kernel_rfl)
                  change wpList _ _ _ _ _ w9.drew
                  go_wp2
                  go_roundw
                  case rel =>
                    repeat apply Exists.intro
                    refine ⟨⟨q + 1, by omega, by go_num, ?_, (HSA.out.setCell _ _ (.inr rfl)).drew⟩, rfl⟩
                    rw [← HA.out, u32s_set, ← w_add]
                    exact HX9.out.set _ _
                  case measure => simp [intOf]; omega
                · obtain rfl : q = 8 := by omega
                  have HF : Hid (Whole w9 Hb 80 (u32s (mixed s ch).list)) := Lib.hid (by
                    rw [← HXX.out, ← addUp_all]; exact HX9.out)
                  clear HX9
                  go_wp2
                  go_roundw
                  case rel => exact ⟨k + 1, by omega, by rw [show 64 * (k + 1) = at0 + 64 from by omega]; go_num, by rw [HNX.out]; exact HF.out, HS9.out.trans HSA.out (fun j hj e => e)⟩
                  case measure => simp [intOf]; omega
    · obtain rfl : k = m := by omega
      have HX7 : Hid (Whole wo Hb 80 (u32s (stAt p k).list)) := HX
      have HDG : Hid (u8s (sumTo (stAt p k) 32) = u8s (digest (feed hs0 bs))) := Lib.hid (by unfold digest; rw [HEND.out])
      generalize stAt p k = f at *
      clear HX
      have hna : ¬ ((64 * k : Nat) : Int) < (Lm : Int) := by omega
      have HN5 : Hid ((wo.alloc (.cells z32.toArray 32)).heap[wo.heap.size]? = some (.cells z32.toArray 32 (0, 0))) := Lib.hid (heap_alloc_new wo _)
      have HI5 := Lib.hid (Tryd.sizeHash (List.replicate 32 0) (by simp))
      obtain ⟨w5, hw5⟩ : ∃ w5, (wo.alloc (.cells z32.toArray 32)).setRow wo.heap.size z32.toArray = w5 := ⟨_, rfl⟩
      have HX5 : Hid (Whole w5 wo.heap.size 32 (u8s (sumTo f 0))) := Lib.hid (by rw [← hw5]; exact Whole.row (cs := z32) (ds := z32) (heap_alloc_new wo _))
      have HS5 : Hid (Same wo w5) := Lib.hid (by rw [← hw5]; exact ((Keeps.refl _ _).alloc _).setRow _ _ (.inl (Nat.le_refl _)))
      have HW5 := Lib.hid hw5
      have hwo5 : wo.heap.size < w5.heap.size := HX5.out.lt
      clear hw5
      go_wp2_with (first
        | (refine wpList_buildTo (by rfl) 32 _ (by rfl) _ (by rfl) z32.toArray (by kernel_rfl) ?_)
        | (refine wpList_store_row (by rfl) 32 _ _ (by rfl) wo.heap.size z32.toArray (by rfl) (by rfl) 32 z32.toArray HN5.out HI5.out rfl (u8s_all _) ?_; rw [HW5.out]))
      obtain ⟨Ob, hOb⟩ : ∃ O, wo.heap.size = O := ⟨_, rfl⟩
      rw [hOb] at HX5 hws hwo5 ⊢
      have HOB : Hid (wo.heap.size = Ob) := Lib.hid hOb
      clear HN5 HI5 HW5 hOb
      go_loopw [29] (fun i wr => ∃ j : Nat, j ≤ 32 ∧ i = .int .i64 j ∧ Whole wr Ob 32 (u8s (sumTo f j)) ∧ Same wo wr) (fun i _ => 32 - (intOf i).toNat)
      case atStart => exact ⟨0, by omega, rfl, HX5.out, HS5.out⟩
      case round =>
        clear HX5 HS5
        obtain ⟨j, hj, rfl, hx, hs⟩ := hrel
        obtain ⟨w6, rfl⟩ : ∃ w6 : World, w6 = wr := ⟨_, rfl⟩
        have HX6 := Lib.hid hx
        have HS6 := Lib.hid hs
        clear hx hs
        by_cases hj32 : j < 32
        · have cx := HX6.out.cell (i := j) (u8s_get _ _ (by rw [sumTo_length _ _ hj]; omega))
          have fx := HX6.out.free j
          have c4 := list_cell (HX7.out.keep HS6.out (fun e => e)) (j / 4) (by omega)
          have HSB : Hid ((sumTo f j).set j (sumByte f j) = sumTo f (j + 1)) := Lib.hid (sumTo_succ f j hj32)
          have HBY : Hid (sumByte f j = UInt8.ofNat ((f.list.getD (j / 4) 0).toNat / 256 ^ (3 - j % 4))) := Lib.hid rfl
          generalize f.list.getD (j / 4) 0 = x at *
          have hb0 := wn_bound x
          have e1 : (j : Int).tdiv 4 = ((j / 4 : Nat) : Int) := by rw [Int.tdiv_eq_ediv_of_nonneg (by omega)]; omega
          have e2 : (j : Int).tmod 4 = ((j % 4 : Nat) : Int) := by rw [Int.tmod_eq_emod_of_nonneg (by omega)]; omega
          have e3 : (j : Int) / 4 = ((j / 4 : Nat) : Int) := by omega
          have e4 : (j : Int) % 4 = ((j % 4 : Nat) : Int) := by omega
          obtain ⟨a4, ha4⟩ : ∃ a, j / 4 = a := ⟨_, rfl⟩
          obtain ⟨b4, hb4⟩ : ∃ b, j % 4 = b := ⟨_, rfl⟩
          rw [ha4] at c4 e1 e3
          rw [hb4] at e2 e4 HBY
          have hb43 : b4 < 4 := by omega
          have ha48 : (a4 : Int) < 8 := by omega
          have ha40 : (0 : Int) ≤ (a4 : Int) := by omega
          have m1 : IntKind.i64.wrap (8 * (b4 : Int)) = 8 * (b4 : Int) := IntWalk.i64_in _ (by omega)
          have m2 : IntKind.i64.wrap (24 - 8 * (b4 : Int)) = 24 - 8 * (b4 : Int) := IntWalk.i64_in _ (by omega)
          have m3 : (0 : Int) ≤ 24 - 8 * (b4 : Int) := by omega
          have m4 : 24 - 8 * (b4 : Int) < 32 := by omega
          have m5 : (24 - 8 * (b4 : Int)).toNat = 24 - 8 * b4 := by omega
          have hji : (j : Int) < 32 := by omega
          have hj0 : (0 : Int) ≤ (j : Int) := by omega
          go_wp2
          go_roundw
          case rel =>
            refine ⟨j + 1, by omega, by go_num, ?_, HS6.out.setCell _ _ (.inl (by rw [HOB.out]; exact Nat.le_refl _))⟩
            rw [sum_shift' x b4 hb43, ← HBY.out, ← HSB.out, u8s_set]
            exact HX6.out.set _ _
          case measure => simp [intOf]; omega
        · obtain rfl : j = 32 := by omega
          have hl32 := sumTo_length f 32 (by omega)
          have HI6 := Lib.hid (Tryd.sizeHash (sumTo f 32) hl32)
          have hR6 : Whole w6 R 32 z32 := (HR4.out.keep HS.out (by omega)).keep HS6.out (fun e => e)
          have HR6 := Lib.hid hR6
          have HZ := Lib.hid (size32 (List.replicate 32 0) (sumTo f 32) (by simp) hl32)
          have hsw : Same w w6 := (HK4.out.trans HS.out (fun j hj e => by have := HRW.out; omega)).trans HS6.out (fun _ _ e => e)
          have HEN : Hid (Same w (w6.setRow R (u8s (sumTo f 32)).toArray) ∧ Whole (w6.setRow R (u8s (sumTo f 32)).toArray) R 32 (u8s (sumTo f 32))) := Lib.hid
            ⟨hsw.setRow _ _ (.inl (by rw [HRW.out]; exact Nat.le_refl _)), hR6.row⟩
          clear hl32 hR6 hsw
          go_wp2_with (first
            | (refine wpList_load_row (by rfl) 32 _ (by rfl) Ob (by rfl) 32 (u8s (sumTo f 32)).toArray (0, 0) _ HX6.out Tryd.underlying32 rfl HI6.out ?_)
            | (refine wpList_store_row (by rfl) 32 _ _ (by rfl) R (u8s (sumTo f 32)).toArray (by rfl) (by rfl) 32 (u8s (List.replicate 32 0)).toArray HR6.out HI6.out HZ.out (u8s_all _) ?_))
          refine bodyPost_ret (v := .agg (u8s (sumTo f 32)).toArray) (results_cell_row (p := 2) (ty := 32) rfl _ _ R 32 _ (0, 0) _ (by rfl) HEN.out.2 Tryd.underlying32 rfl HI6.out) rfl ⟨by first | rfl | rw [HDG.out], HEN.out.1⟩

end Go.Proofs.YtiddnhnfpggomaaDoor
