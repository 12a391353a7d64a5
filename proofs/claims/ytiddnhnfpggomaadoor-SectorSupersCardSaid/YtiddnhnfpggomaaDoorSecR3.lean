/- The document's own ReadSuper. -/
import Derived.Test.YtiddnhnfpggomaaDoorSecR2
namespace Go.Proofs.YtiddnhnfpggomaaDoor
open Go.RowKit
set_option linter.unusedVariables false

/-- How far a sector's rest is looked at: the digest, noughts. -/
def restAt (sum : List UInt8) (j : Nat) : UInt8 := if j < 32 then sum.getD j 0 else 0
theorem superB_rest (s : Sup) (h : s.Ok) (j : Nat) (hj : j < 439) : (superB s).getD (73 + j) 0 = restAt (shaOf (supT s)) j := by
  have hl := supT_length s h
  have hs : (shaOf (supT s)).length = 32 := shaOf_length _
  unfold superB padB restAt
  rw [List.append_assoc, List.getD_eq_getElem?_getD, List.getElem?_append_right (by omega), hl, show 73 + j - 73 = j from by omega]
  split
  · rw [List.getElem?_append_left (by omega), List.getD_eq_getElem?_getD]
  · rw [List.getElem?_append_right (by omega), List.getElem?_replicate]
    split <;> rfl
/-- What the document asks of a node's sector. -/
theorem superB_of (bs : List UInt8) (hl : bs.length = 512) (h0 : bs.getD 0 0 = 83) (hr : ∀ j, j < 439 → bs.getD (73 + j) 0 = restAt (shaOf (bs.take 73)) j) : superB (supOf bs) = bs := by
  have h0' : bs[0]? = some 83 := by
    rw [List.getD_eq_getElem?_getD, List.getElem?_eq_getElem (by omega)] at h0
    rw [List.getElem?_eq_getElem (by omega)]
    simpa using h0
  have ht := supT_of bs (by omega) h0'
  have hok := supOf_ok bs (by omega)
  refine List.ext_getElem (by rw [superB_length _ hok, hl]) fun i h1 h2 => ?_
  by_cases hi : i < 73
  · have e1 : (superB (supOf bs)).take 73 = bs.take 73 := by rw [superB_front _ hok, ht]
    have e2 : ((superB (supOf bs)).take 73)[i]? = (bs.take 73)[i]? := by rw [e1]
    rw [List.getElem?_take, List.getElem?_take, if_pos hi, if_pos hi, List.getElem?_eq_getElem h1, List.getElem?_eq_getElem h2] at e2
    simpa using e2
  · have e1 := superB_rest (supOf bs) hok (i - 73) (by omega)
    have e2 := hr (i - 73) (by omega)
    rw [ht] at e1
    rw [← e2, show 73 + (i - 73) = i from by omega] at e1
    simpa [h1, h2] using e1
def noSup (bs : List UInt8) : Prop := ∀ s : Sup, s.Ok → bs ≠ superB s

/-- The head as far as it is copied. -/
def headTo (bs : List UInt8) (k : Nat) : List UInt8 := (bs.drop 41).take k ++ List.replicate (32 - k) 0
theorem headTo_succ (bs : List UInt8) (k : Nat) (h : bs.length = 512) (hk : k < 32) : (headTo bs k).set k (bs.getD (41 + k) 0) = headTo bs (k + 1) := by
  unfold headTo
  have h1 : ((bs.drop 41).take k).length = k := by simp; omega
  rw [List.set_append_right _ _ (by omega), h1, Nat.sub_self, show 32 - k = (32 - (k + 1)) + 1 from by omega, List.replicate_succ, List.set_cons_zero]
  rw [List.take_succ_eq_append_getElem (i := k) (by simp; omega), List.append_assoc]
  congr 1
  rw [show (bs.drop 41)[k]'(by simp; omega) = bs.getD (41 + k) 0 from by simp [show 41 + k < bs.length by omega]]
  rfl
theorem headTo_all (bs : List UInt8) (h : bs.length = 512) : headTo bs 32 = (supOf bs).head := by simp [headTo, supOf]
theorem headTo_length (bs : List UInt8) (k : Nat) (h : bs.length = 512) (hk : k ≤ 32) : (headTo bs k).length = 32 := by simp [headTo]; omega

set_option maxRecDepth 100000 in
set_option maxHeartbeats 12800000 in
theorem rreadSuper_any (ao : Option Addr) (c : Nat) (bs : List UInt8) (w : World) (hx : Bytes w (.slice ao bs.length c) bs) (hc : bs.length ≤ c) (hl : bs.length ≤ 140737488351232) :
    Calls Tryd.prog 15 #[.slice ao bs.length c] w fun e w' => Same w w' ∧ ((∃ s : Sup, s.Ok ∧ bs = superB s ∧ e = .returned (.tuple #[.agg s.cells.toArray, .int .i64 0])) ∨
      (noSup bs ∧ e = .returned (.tuple #[.agg sup0.cells.toArray, .int .i64 22]))) := by
  have hzs := Tryd.zeroSup
  have hz32 := Tryd.zero32
  have HX := Lib.hid hx
  have HR0 : Hid (Whole (w.alloc (.cells sup0.cells.toArray 34)) w.heap.size 34 sup0.cells) := Lib.hid (heap_alloc_new w _)
  have HI0 := Lib.hid (Tryd.sizeSup sup0 (by simp [sup0]))
  have HEND : Hid (Same w ((w.alloc (.cells sup0.cells.toArray 34)).setRow w.heap.size sup0.cells.toArray) ∧ Whole ((w.alloc (.cells sup0.cells.toArray 34)).setRow w.heap.size sup0.cells.toArray) w.heap.size 34 sup0.cells) := Lib.hid
    ⟨((Keeps.refl _ _).alloc _).setRow _ _ (.inl (Nat.le_refl _)), HR0.out.row⟩
  clear hx
  by_cases q1 : bs.length = 512
  case neg =>
    have q1' : ¬ (bs.length : Int) = 512 := by omega
    go_enter Tryd.func15, Tryd.ntmps15
    go_wp2_with (first
      | (refine wpList_buildTo (by rfl) 34 _ (by rfl) _ (by rfl) sup0.cells.toArray (by kernel_rfl) ?_)
      | (refine wpList_store_row (by rfl) 34 _ _ (by rfl) w.heap.size sup0.cells.toArray (by rfl) (by rfl) 34 sup0.cells.toArray HR0.out HI0.out rfl (sup_all _) ?_))
    refine bodyPost_ret (v := .tuple #[.agg sup0.cells.toArray, .int .i64 22]) (results_row_tmp (p := 2) (u := 3) (ty := 34) rfl _ _ w.heap.size 34 _ (0, 0) _ (by rfl) HEND.out.2 Tryd.underlying34 rfl HI0.out) rfl ⟨HEND.out.1, .inr ⟨fun s hs e => q1 (by rw [e]; exact superB_length s hs), rfl⟩⟩
  obtain ⟨a, rfl, hc0⟩ := (HX.out.same (((Keeps.refl (fun _ => False) w).alloc (.cells sup0.cells.toArray 34)))).cellAt 0 (by omega)
  rw [show a.add 0 = a from by unfold Addr.add; split <;> simp_all] at hc0
  have HQ := Lib.hid q1
  rw [q1] at HX hc ⊢
  clear q1
  by_cases q2 : bs.getD 0 0 = 83
  case neg =>
    have q2' : ¬ ((bs.getD 0 0).toNat : Int) = 83 := fun h => q2 (UInt8.toNat_inj.1 (by simpa using (by omega : (bs.getD 0 0).toNat = 83)))
    have HQ2 : Hid (noSup bs) := Lib.hid (fun s hs e => q2 (by rw [e, List.getD_eq_getElem?_getD, superB_zero s]; rfl))
    clear q2
    generalize bs.getD 0 0 = b0 at *
    go_enter Tryd.func15, Tryd.ntmps15
    go_wp2_with (first
      | (refine wpList_buildTo (by rfl) 34 _ (by rfl) _ (by rfl) sup0.cells.toArray (by kernel_rfl) ?_)
      | (refine wpList_store_row (by rfl) 34 _ _ (by rfl) w.heap.size sup0.cells.toArray (by rfl) (by rfl) 34 sup0.cells.toArray HR0.out HI0.out rfl (sup_all _) ?_))
    refine bodyPost_ret (v := .tuple #[.agg sup0.cells.toArray, .int .i64 22]) (results_row_tmp (p := 2) (u := 3) (ty := 34) rfl _ _ w.heap.size 34 _ (0, 0) _ (by rfl) HEND.out.2 Tryd.underlying34 rfl HI0.out) rfl ⟨HEND.out.1, .inr ⟨HQ2.out, rfl⟩⟩
  have HQ2 := Lib.hid q2
  rw [q2] at hc0
  have HX1 := Lib.hid (HX.out.same (((Keeps.refl (fun _ => False) w).alloc (.cells sup0.cells.toArray 34))))
  clear q2 HEND
  go_enter Tryd.func15, Tryd.ntmps15
  go_wp2_with fail
  have HXT := Lib.hid (HX1.out.take 73 (by have := HQ.out; omega))
  have HLT : Hid ((bs.take 73).length = 73) := Lib.hid (by have := HQ.out; simp; omega)
  ((with_reducible refine (rsum_any _ 73 c (bs.take 73) _ HXT.out HLT.out (by omega)).mono ?_); rintro e w2 ⟨rfl, hk2⟩)
  rw [show digest (feed hs0 (bs.take 73)) = shaOf (bs.take 73) from rfl]
  have HW2 : Hid (Same w w2) := Lib.hid (((Keeps.refl _ _).alloc _).trans hk2 (fun _ _ e => e))
  have HR2 : Hid (Whole w2 w.heap.size 34 sup0.cells) := Lib.hid (HR0.out.keep hk2 (fun e => e))
  have hs2 : w.heap.size < w2.heap.size := by have := hk2.size; simp at this; omega
  clear hk2 HXT HLT HR0 hc0 HX1
  obtain ⟨sum, hsum⟩ : ∃ sum, shaOf (bs.take 73) = sum := ⟨_, rfl⟩
  have hsl : sum.length = 32 := by rw [← hsum]; exact shaOf_length _
  rw [hsum]
  have HSUM := Lib.hid hsum
  have HSL := Lib.hid hsl
  obtain ⟨w3, hw3⟩ : ∃ w3, (w2.alloc (.cells z32.toArray 32)).setRow w2.heap.size (u8s sum).toArray = w3 := ⟨_, rfl⟩
  have HW3 := Lib.hid hw3
  have HN3 : Hid ((w2.alloc (.cells z32.toArray 32)).heap[w2.heap.size]? = some (.cells z32.toArray 32 (0, 0))) := Lib.hid (heap_alloc_new w2 _)
  have HI3 := Lib.hid (Tryd.sizeHash sum hsl)
  have HZ3 : Hid (z32.toArray.size = (u8s sum).toArray.size) := Lib.hid (size32 (List.replicate 32 0) sum (by simp) hsl)
  have hk23 : Same w2 w3 := by rw [← hw3]; exact ((Keeps.refl _ _).alloc _).setRow _ _ (.inl (Nat.le_refl _))
  have HS3 : Hid (Whole w3 w2.heap.size 32 (u8s sum)) := Lib.hid (by rw [← hw3]; exact Whole.row (cs := z32) (heap_alloc_new w2 _))
  have HR3 : Hid (Whole w3 w.heap.size 34 sup0.cells) := Lib.hid (HR2.out.keep hk23 (fun e => e))
  have HK3 : Hid (Same w w3) := Lib.hid (HW2.out.trans hk23 (fun _ _ e => e))
  clear hw3 hk23 hsum hsl HR2 HW2
  generalize hS : w2.heap.size = S at *
  go_wp2_with (first
    | (refine wpList_store_row (by rfl) 32 _ _ (by rfl) S (u8s sum).toArray (by rfl) (by rfl) 32 z32.toArray HN3.out HI3.out HZ3.out (u8s_all _) ?_; rw [HW3.out]))
  have HZS := Lib.hid hzs
  clear HN3 HI3 HZ3 HW3 hzs hz32
  go_loopw [5] (fun i wr => ∃ k : Nat, k ≤ 439 ∧ i = .int .i64 k ∧ (∀ j, j < k → bs.getD (73 + j) 0 = restAt sum j) ∧ Whole wr S 32 (u8s sum) ∧ Whole wr w.heap.size 34 sup0.cells ∧ Same w wr) (fun i _ => 439 - (intOf i).toNat)
  case atStart => exact ⟨0, by omega, rfl, fun j hj => by omega, HS3.out, HR3.out, HK3.out⟩
  case round =>
    obtain ⟨k, hk, rfl, hz, hsS, hr, hkk⟩ := hrel
    obtain ⟨wo, rfl⟩ : ∃ wo : World, wo = wr := ⟨_, rfl⟩
    have HZ := Lib.hid hz
    have HS := Lib.hid hsS
    have HR := Lib.hid hr
    have HK := Lib.hid hkk
    clear hz hsS hr hkk HS3 HR3 HK3
    by_cases hlt : k < 439
    · obtain ⟨a', ha', hcell⟩ := (HX.out.same HK.out).cellAt (73 + k) (by have := HQ.out; omega)
      obtain rfl : a = a' := by simpa using ha'
      clear ha'
      obtain ⟨p, hp, hpn⟩ : ∃ p : Nat, (73 : Int) + (k : Int) = (p : Int) ∧ 73 + k = p := ⟨73 + k, by omega, rfl⟩
      rw [hpn] at hcell
      have wrp : IntKind.i64.wrap (p : Int) = (p : Int) := IntWalk.i64_in _ (by omega)
      have hp5 : (p : Int) < 512 := by omega
      rw [← hpn] at hcell
      have HPN := Lib.hid hpn
      have hk0 : (0 : Int) ≤ (k : Int) := by omega
      have hkl : (k : Int) < 439 := by omega
      have HEND : Hid (∀ n, Same w ((wo.drewN n).setRow w.heap.size sup0.cells.toArray) ∧ Whole ((wo.drewN n).setRow w.heap.size sup0.cells.toArray) w.heap.size 34 sup0.cells) := Lib.hid
        (fun n => ⟨(HK.out.drewN n).setRow _ _ (.inl (Nat.le_refl _)), (show Whole (wo.drewN n) _ _ _ from HR.out).row⟩)
      have HNO : Hid (bs.getD (73 + k) 0 ≠ restAt sum k → noSup bs) := Lib.hid (fun hne s hs e => by
        apply hne
        rw [← HSUM.out, e, superB_front s hs]
        exact superB_rest s hs k hlt)
      obtain ⟨b, hb⟩ : ∃ b, bs.getD (73 + k) 0 = b := ⟨_, rfl⟩
      rw [hb] at hcell HNO
      rw [hpn] at hcell
      clear hpn
      by_cases h32 : k < 32
      · have hk32 : (k : Int) < 32 := by omega
        have hd32 : decide ((32 : Int) ≤ (k : Int)) = false := decide_eq_false (by omega)
        have hcs : wo.cell? ⟨S, k, none⟩ = some (.int .u8 ((sum.getD k 0).toNat : Int)) := HS.out.cell (u8s_get sum k (by have := HSL.out; omega))
        obtain ⟨d, hd⟩ : ∃ d, sum.getD k 0 = d := ⟨_, rfl⟩
        rw [hd] at hcs
        have hra : restAt sum k = d := by unfold restAt; rw [if_pos h32, hd]
        rw [hra] at HNO
        by_cases hbd : b = d
        · subst hbd
          have HNX : Hid (∀ j, j < k + 1 → bs.getD (73 + j) 0 = restAt sum j) := Lib.hid (fun j hj => by
            by_cases hjk : j = k
            · rw [hjk, hb, hra]
            · exact HZ.out j (by omega))
          clear hb hd hra HNO
          go_wp2
          go_quiet (fail)
          go_wp2
          go_roundw
          case rel => exact ⟨k + 1, by omega, by go_num, HNX.out, HS.out, HR.out, HK.out.drewN _⟩
          case measure => simp [intOf]; omega
        · have hbd' : ¬ (b.toNat : Int) = (d.toNat : Int) := fun h => hbd (UInt8.toNat_inj.1 (by omega))
          have HNS := Lib.hid (HNO.out hbd)
          clear hb hd hra HNO hbd
          have hbd2 : ((b.toNat : Int) != (d.toNat : Int)) = true := by simpa using hbd'
          go_wp2
          go_quiet (fail)
          go_wp2_with (first
            | (refine wpList_buildTo (by rfl) 34 _ (by rfl) _ (by rfl) sup0.cells.toArray (by kernel_rfl) ?_)
            | (refine wpList_store_row (by rfl) 34 _ _ (by rfl) w.heap.size sup0.cells.toArray (by rfl) (by rfl) 34 sup0.cells.toArray HR.out HI0.out rfl (sup_all _) ?_))
          refine bodyPost_ret (v := .tuple #[.agg sup0.cells.toArray, .int .i64 22]) (results_row_tmp (p := 2) (u := 3) (ty := 34) rfl _ _ w.heap.size 34 _ (0, 0) _ (by rfl) (HEND.out _).2 Tryd.underlying34 rfl HI0.out) rfl ⟨(HEND.out _).1, .inr ⟨HNS.out, rfl⟩⟩
      · have hk32 : ¬ (k : Int) < 32 := by omega
        have hd32 : decide ((k : Int) < 32) = false := decide_eq_false (by omega)
        have he32 : decide ((32 : Int) ≤ (k : Int)) = true := decide_eq_true (by omega)
        have hra : restAt sum k = 0 := by unfold restAt; rw [if_neg h32]
        rw [hra] at HNO
        by_cases hbd : b = 0
        · subst hbd
          have HNX : Hid (∀ j, j < k + 1 → bs.getD (73 + j) 0 = restAt sum j) := Lib.hid (fun j hj => by
            by_cases hjk : j = k
            · rw [hjk, hb, hra]
            · exact HZ.out j (by omega))
          clear hb hra HNO
          go_wp2
          go_quiet (fail)
          go_wp2
          go_roundw
          case rel => exact ⟨k + 1, by omega, by go_num, HNX.out, HS.out, HR.out, HK.out.drewN _⟩
          case measure => simp [intOf]; omega
        · have hbd' : ¬ (b.toNat : Int) = 0 := fun h => hbd (UInt8.toNat_inj.1 (by simpa using (by omega : b.toNat = 0)))
          have HNS := Lib.hid (HNO.out hbd)
          clear hb hra HNO hbd
          have hbd2 : ((b.toNat : Int) != 0) = true := by simpa using hbd'
          go_wp2
          go_quiet (fail)
          go_wp2_with (first
            | (refine wpList_buildTo (by rfl) 34 _ (by rfl) _ (by rfl) sup0.cells.toArray (by kernel_rfl) ?_)
            | (refine wpList_store_row (by rfl) 34 _ _ (by rfl) w.heap.size sup0.cells.toArray (by rfl) (by rfl) 34 sup0.cells.toArray HR.out HI0.out rfl (sup_all _) ?_))
          refine bodyPost_ret (v := .tuple #[.agg sup0.cells.toArray, .int .i64 22]) (results_row_tmp (p := 2) (u := 3) (ty := 34) rfl _ _ w.heap.size 34 _ (0, 0) _ (by rfl) (HEND.out _).2 Tryd.underlying34 rfl HI0.out) rfl ⟨(HEND.out _).1, .inr ⟨HNS.out, rfl⟩⟩
    · have hk5 : k = 439 := by omega
      subst hk5
      have hbs : superB (supOf bs) = bs := superB_of bs HQ.out HQ2.out (by rw [HSUM.out]; exact HZ.out)
      have HBS := Lib.hid hbs
      have hxo := HX.out.same HK.out
      have HXO := Lib.hid hxo
      clear hbs hxo
      obtain ⟨v0, hv0⟩ : ∃ v, beVal ((bs.drop (1 + 8 * 0)).take 8) = v := ⟨_, rfl⟩
      obtain ⟨v1, hv1⟩ : ∃ v, beVal ((bs.drop (1 + 8 * 1)).take 8) = v := ⟨_, rfl⟩
      obtain ⟨v2, hv2⟩ : ∃ v, beVal ((bs.drop (1 + 8 * 2)).take 8) = v := ⟨_, rfl⟩
      obtain ⟨v3, hv3⟩ : ∃ v, beVal ((bs.drop (1 + 8 * 3)).take 8) = v := ⟨_, rfl⟩
      obtain ⟨v4, hv4⟩ : ∃ v, beVal ((bs.drop (1 + 8 * 4)).take 8) = v := ⟨_, rfl⟩
      have HNS : Hid ((supOf bs).nums = [v0, v1, v2, v3, v4]) := Lib.hid (by rw [← hv0, ← hv1, ← hv2, ← hv3, ← hv4]; rfl)
      have HV0 := Lib.hid hv0
      have HV1 := Lib.hid hv1
      have HV2 := Lib.hid hv2
      have HV3 := Lib.hid hv3
      have HV4 := Lib.hid hv4
      clear hv0 hv1 hv2 hv3 hv4
      obtain ⟨w5, rfl⟩ : ∃ w5 : World, w5 = wo := ⟨_, rfl⟩
      go_wp2_with fail
      ((with_reducible refine (rnumber_any a c bs 0 _ _ HXO.out HQ.out hc (by omega) (by omega)).mono ?_); rintro e w4 ⟨rfl, h4⟩)
      (try (obtain rfl := h4))
      rw [HV0.out]
      go_wp2_with fail
      ((with_reducible refine (rnumber_any a c bs 1 _ _ HXO.out HQ.out hc (by omega) (by omega)).mono ?_); rintro e w4 ⟨rfl, h4⟩)
      (try (obtain rfl := h4))
      rw [HV1.out]
      go_wp2_with fail
      ((with_reducible refine (rnumber_any a c bs 2 _ _ HXO.out HQ.out hc (by omega) (by omega)).mono ?_); rintro e w4 ⟨rfl, h4⟩)
      (try (obtain rfl := h4))
      rw [HV2.out]
      go_wp2_with fail
      ((with_reducible refine (rnumber_any a c bs 3 _ _ HXO.out HQ.out hc (by omega) (by omega)).mono ?_); rintro e w4 ⟨rfl, h4⟩)
      (try (obtain rfl := h4))
      rw [HV3.out]
      go_wp2_with fail
      ((with_reducible refine (rnumber_any a c bs 4 _ _ HXO.out HQ.out hc (by omega) (by omega)).mono ?_); rintro e w4 ⟨rfl, h4⟩)
      (try (obtain rfl := h4))
      rw [HV4.out]
      have hzs := HZS.out
      obtain ⟨s0, hs0⟩ : ∃ s0 : Sup, s0 = ⟨v0, v1, v2, v3, v4, List.replicate 32 0⟩ := ⟨_, rfl⟩
      have hsc0 : (nsCells [v0, v1, v2, v3, v4] sup0.head).toArray = s0.cells.toArray := by rw [hs0]; rfl
      have hh0 : s0.head = headTo bs 0 := by rw [hs0]; simp [headTo]
      have hn0 : s0.nums = [v0, v1, v2, v3, v4] := by rw [hs0]; rfl
      have HSC0 := Lib.hid hsc0
      have hl0 : s0.head.length = 32 := by rw [hh0]; exact headTo_length bs 0 HQ.out (by omega)
      have HI6 := Lib.hid (Tryd.sizeSup s0 hl0)
      have HZ6 : Hid (sup0.cells.toArray.size = s0.cells.toArray.size) := Lib.hid (by
        rw [List.size_toArray, List.size_toArray, cells_length s0 hl0, cells_length sup0 (by simp [sup0])])
      have HN6 : Hid ((w4.alloc (.cells sup0.cells.toArray 34)).heap[w4.heap.size]? = some (.cells sup0.cells.toArray 34 (0, 0))) := Lib.hid (heap_alloc_new w4 _)
      obtain ⟨w6, hw6⟩ : ∃ w6, (w4.alloc (.cells sup0.cells.toArray 34)).setRow w4.heap.size s0.cells.toArray = w6 := ⟨_, rfl⟩
      have HW6 := Lib.hid hw6
      have hk46 : Same w4 w6 := by rw [← hw6]; exact ((Keeps.refl _ _).alloc _).setRow _ _ (.inl (Nat.le_refl _))
      have HS6 : Hid (Whole w6 w4.heap.size 34 s0.cells) := Lib.hid (by rw [← hw6]; exact Whole.row (cs := sup0.cells) (heap_alloc_new w4 _))
      have HR6 : Hid (Whole w6 w.heap.size 34 sup0.cells) := Lib.hid (HR.out.keep hk46 (fun e => e))
      have HK6 : Hid (Same w w6) := Lib.hid (HK.out.trans hk46 (fun _ _ e => e))
      have HH0 := Lib.hid hh0
      have HN0 := Lib.hid hn0
      have hs4 : w.heap.size < w4.heap.size := by have := HR.out.lt; omega
      have hbuilt : ∀ P : Program, True := fun _ => trivial
      clear hw6 hk46 hsc0 hh0 hn0 hl0 HXO hs0 hbuilt
      generalize hS6 : w4.heap.size = S6 at *
      go_wp2_with (first
        | (refine wpList_buildTo (by rfl) 34 _ (by rfl) _ (by rfl) (nsCells [v0, v1, v2, v3, v4] sup0.head).toArray (by kernel_rfl) ?_; rw [HSC0.out])
        | (refine wpList_store_row (by rfl) 34 _ _ (by rfl) S6 s0.cells.toArray (by rfl) (by rfl) 34 sup0.cells.toArray HN6.out HI6.out HZ6.out (sup_all _) ?_; rw [HW6.out]))
      clear HN6 HI6 HZ6 HW6 hzs HS HR HK HSC0
      go_loopw [7] (fun i wr => ∃ (k : Nat) (s : Sup), k ≤ 32 ∧ i = .int .i64 k ∧ s.nums = (supOf bs).nums ∧ s.head = headTo bs k ∧ Whole wr S6 34 s.cells ∧ Whole wr w.heap.size 34 sup0.cells ∧ Same w wr) (fun i _ => 32 - (intOf i).toNat)
      case atStart => exact ⟨0, s0, by omega, rfl, by rw [HNS.out]; exact HN0.out, HH0.out, HS6.out, HR6.out, HK6.out⟩
      case round =>
        clear HS6 HR6 HK6
        obtain ⟨k, s, hk', rfl, hsn, hsh, hsS, hr, hkk⟩ := hrel
        obtain ⟨wo, rfl⟩ : ∃ wo : World, wo = wr := ⟨_, rfl⟩
        have HSN := Lib.hid hsn
        have HSH := Lib.hid hsh
        have HS := Lib.hid hsS
        have HR := Lib.hid hr
        have HK := Lib.hid hkk
        clear hsn hsh hsS hr hkk
        by_cases hlt' : k < 32
        · obtain ⟨a', ha', hcell⟩ := (HX.out.same HK.out).cellAt (41 + k) (by have := HQ.out; omega)
          obtain rfl : a = a' := by simpa using ha'
          clear ha'
          obtain ⟨p, hp, hpn⟩ : ∃ p : Nat, (41 : Int) + (k : Int) = (p : Int) ∧ 41 + k = p := ⟨41 + k, by omega, rfl⟩
          obtain ⟨b, hb⟩ : ∃ b, bs.getD (41 + k) 0 = b := ⟨_, rfl⟩
          rw [hb] at hcell
          rw [hpn] at hcell
          have wrp : IntKind.i64.wrap (p : Int) = (p : Int) := IntWalk.i64_in _ (by omega)
          have hp5 : (p : Int) < 512 := by omega
          have hk0 : (0 : Int) ≤ (k : Int) := by omega
          have hkl : (k : Int) < 32 := by omega
          have hhl : s.head.length = 32 := by rw [HSH.out]; exact headTo_length bs k HQ.out (by omega)
          have hsc : s.cells[5 + k]? = some (.int .u8 ((s.head.getD k 0).toNat : Int)) := by
            unfold Sup.cells
            rw [List.getElem?_append_right (by simp)]
            have := u8s_get s.head k (by omega)
            simpa using this
          have hcS : wo.cell? ⟨S6, 5 + k, none⟩ = some (.int .u8 ((s.head.getD k 0).toNat : Int)) := HS.out.cell hsc
          have hfr : wo.frozen? ⟨S6, 5 + k, none⟩ = false := HS.out.free (5 + k)
          have HB := Lib.hid hb
          have HSET : Hid (s.cells.set (5 + k) (.int .u8 (b.toNat : Int)) = (Sup.mk s.seq s.view s.normal s.gen s.commit (s.head.set k b)).cells) := Lib.hid (by
            unfold Sup.cells
            rw [List.set_append_right _ _ (by simp), u8s_set]
            simp)
          have HHL := Lib.hid hhl
          clear hsc hhl hb hpn
          generalize s.head.getD k 0 = old at *
          go_wp2
          go_roundw
          case rel =>
            refine ⟨k + 1, Sup.mk s.seq s.view s.normal s.gen s.commit (s.head.set k b), by omega, by go_num, HSN.out, ?_, ?_, HR.out.far _ (by simp only; omega) _, HK.out.setCell _ _ (.inl (by simp only; omega))⟩
            · show s.head.set k b = headTo bs (k + 1)
              rw [HSH.out, ← HB.out]
              exact headTo_succ bs k HQ.out hlt'
            · have h7 := HS.out.set (5 + k) (.int .u8 (b.toNat : Int))
              rw [HSET.out] at h7
              exact h7
          case measure => simp [intOf]; omega
        · have hk32 : k = 32 := by omega
          subst hk32
          have hse : s = supOf bs := sup_ext s _ HSN.out (HSH.out.trans (headTo_all bs HQ.out))
          subst hse
          have hok := supOf_ok bs (by have := HQ.out; omega)
          have HOK := Lib.hid hok
          have HI7 := Lib.hid (Tryd.sizeSup (supOf bs) hok.head)
          have HSZ : Hid (sup0.cells.toArray.size = (supOf bs).cells.toArray.size) := Lib.hid (by
            rw [List.size_toArray, List.size_toArray, cells_length _ hok.head, cells_length sup0 (by simp [sup0])])
          have HEND : Hid (Same w (wo.setRow w.heap.size (supOf bs).cells.toArray) ∧ Whole (wo.setRow w.heap.size (supOf bs).cells.toArray) w.heap.size 34 (supOf bs).cells) := Lib.hid
            ⟨HK.out.setRow _ _ (.inl (Nat.le_refl _)), HR.out.row⟩
          clear hok
          go_wp2_with (first
            | (refine wpList_load_row (by rfl) 34 _ (by rfl) S6 (by rfl) 34 (supOf bs).cells.toArray (0, 0) _ HS.out Tryd.underlying34 rfl HI7.out ?_)
            | (refine wpList_store_row (by rfl) 34 _ _ (by rfl) w.heap.size (supOf bs).cells.toArray (by rfl) (by rfl) 34 sup0.cells.toArray HR.out HI7.out HSZ.out (sup_all _) ?_))
          refine bodyPost_ret (v := .tuple #[.agg (supOf bs).cells.toArray, .int .i64 0]) (results_row_tmp (p := 2) (u := 3) (ty := 34) rfl _ _ w.heap.size 34 _ (0, 0) _ (by rfl) HEND.out.2 Tryd.underlying34 rfl HI7.out) rfl ⟨HEND.out.1, .inl ⟨_, HOK.out, HBS.out.symm, rfl⟩⟩

end Go.Proofs.YtiddnhnfpggomaaDoor
