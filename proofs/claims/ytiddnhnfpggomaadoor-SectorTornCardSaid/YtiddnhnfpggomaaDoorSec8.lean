/- The walk of SectorTorn. -/
import Derived.Test.YtiddnhnfpggomaaDoorSec7
namespace Go.Proofs.YtiddnhnfpggomaaDoor
open Go.RowKit
set_option linter.unusedVariables false

theorem and_mask1023 (k : Int) : 0 ≤ bits BinOp.and IntKind.i64 k 1023 ∧ bits BinOp.and IntKind.i64 k 1023 < 1024 := by
  have h2 : (BitVec.ofInt IntKind.i64.bits k &&& BitVec.ofInt IntKind.i64.bits 1023).toNat < 1024 := by
    rw [BitVec.toNat_and]
    have h3 : (BitVec.ofInt IntKind.i64.bits 1023).toNat = 1023 := by decide
    rw [h3]
    exact Nat.lt_succ_of_le Nat.and_le_right
  have h4 : bits BinOp.and IntKind.i64 k 1023 = IntKind.i64.wrap ((BitVec.ofInt IntKind.i64.bits k &&& BitVec.ofInt IntKind.i64.bits 1023).toNat : Int) := rfl
  rw [h4, IntWalk.i64_in _ (by omega)]
  omega

set_option maxRecDepth 100000 in
set_option maxHeartbeats 12800000 in
theorem torn_any (s t : Sup) (n : Int) (hs : s.Ok) (ht : t.Ok) (w : World) (hN : Nums w) :
    Calls Tryd.prog 5 #[.agg s.cells.toArray, .agg t.cells.toArray, .int .i64 n] w fun e w' => e = .returned (.bool true) ∧ Same w w' := by
  obtain ⟨i0, hi0, hz0, hz1, hz2⟩ := info_parts (show (Tryd.prog.info? 5).map (fun i => (i.zero, i.size, i.bytes)) = some (some (.int .u8 0), 1, 1) from by kernel_rfl)
  have HN := Lib.hid hN
  have HS := Lib.hid hs
  have HT := Lib.hid ht
  obtain ⟨w1, hw1⟩ : ∃ w1, w.alloc (.cells s.cells.toArray 34) = w1 := ⟨_, rfl⟩
  obtain ⟨w2, hw2⟩ : ∃ w2, w1.alloc (.cells t.cells.toArray 34) = w2 := ⟨_, rfl⟩
  have hS1 : Whole w1 w.heap.size 34 s.cells := by rw [← hw1]; exact heap_alloc_new w _
  have hS2 : Hid (Whole w2 w.heap.size 34 s.cells) := Lib.hid (by rw [← hw2]; exact hS1.keep (S := fun _ => False) ((Keeps.refl _ _).alloc _) (fun e => e))
  have hT2 : Hid (Whole w2 w1.heap.size 34 t.cells) := Lib.hid (by rw [← hw2]; exact heap_alloc_new w1 _)
  have HK2 : Hid (Same w w2) := Lib.hid (by rw [← hw2, ← hw1]; exact ((Keeps.refl _ _).alloc _).alloc _)
  have HIS := Lib.hid (Tryd.sizeSup s hs.head)
  have HIT := Lib.hid (Tryd.sizeSup t ht.head)
  clear hS1 hN hs ht
  go_enter Tryd.func5, Tryd.ntmps5
  go_wp2_with fail
  ((with_reducible refine (speaks04 _ (HN.out.keep HK2.out (fun e => e))).mono ?_); rintro e w3 ⟨rfl, hk3⟩)
  have HK3 : Hid (Same w w3) := Lib.hid (HK2.out.trans hk3 (fun _ _ e => e))
  have HS3 := Lib.hid (hS2.out.keep hk3 (fun e => e))
  have HT3 := Lib.hid (hT2.out.keep hk3 (fun e => e))
  generalize hB1 : w.heap.size = B1 at *
  generalize hB2 : w1.heap.size = B2 at *
  clear hk3 hS2 hT2 HK2 hw1 hw2
  go_wp2
  refine wp_region_do [[], [0], [], [2, 1], [1, 3, 0, 1], [3, 4, 0, 1, 2, 3, 4]] [some 15, some 16, some 17, some 18, some 7, some 8]
    [.is (supV s), .reads (superB s), .is (supV t), .reads (superB t), .reads (superB s), .reads (superB t)]
    3 _ _ 68 6 (by kernel_rfl) (by rfl) (by rfl) (by kernel_rfl) (by kernel_rfl) (by decide) ?_ ?_
  · refine ⟨?_, ?_, ?_, ?_, ?_, ?_, trivial⟩
    · intro a w' K hs' hdep hfr hK
      have f := hfr 3 (by decide)
      exact plan_do (by rfl) (wp_load_row 34 (.tmp 3) rfl B1 ((eval_tmp _ _).trans f) 34 s.cells.toArray (0, 0) _ (HS3.out.keep hs' (fun e => e)) Tryd.underlying34 rfl HIS.out (hK _ _ (Keeps.refl _ _) rfl))
    · intro a w' K hs' hdep hfr hK
      have e15 : a.tmps[15]?.getD undef = supV s := hdep 0 (by decide) 15 rfl
      refine plan_do (by rfl) (plan_call 13 #[supV s] (by go_simp) ?_)
      exact (super_out s HS.out w' (HN.out.keep (HK3.out.trans hs' (fun _ _ e => e)) (fun e => e))).mono fun e w'' ⟨hk, g, c, he, hr⟩ => ⟨_, he, hK _ _ hk hr⟩
    · intro a w' K hs' hdep hfr hK
      have f := hfr 4 (by decide)
      exact plan_do (by rfl) (wp_load_row 34 (.tmp 4) rfl B2 ((eval_tmp _ _).trans f) 34 t.cells.toArray (0, 0) _ (HT3.out.keep hs' (fun e => e)) Tryd.underlying34 rfl HIT.out (hK _ _ (Keeps.refl _ _) rfl))
    · intro a w' K hs' hdep hfr hK
      have e17 : a.tmps[17]?.getD undef = supV t := hdep 2 (by decide) 17 rfl
      refine plan_do (by rfl) (plan_call 13 #[supV t] (by go_simp) ?_)
      exact (super_out t HT.out w' (HN.out.keep (HK3.out.trans hs' (fun _ _ e => e)) (fun e => e))).mono fun e w'' ⟨hk, g, c, he, hr⟩ => ⟨_, he, hK _ _ hk hr⟩
    · intro a w' K hs' hdep hfr hK
      have r16 : Reads w' (a.tmps[16]?.getD undef) (superB s) := hdep 1 (by decide) 16 rfl
      exact plan_do (by rfl) (plan_yield (i := 4) (V := fun _ w v => Reads w v (superB s)) (a.tmps[16]?.getD undef) (by go_simp) r16 hK)
    · intro a w' K hs' hdep hfr hK
      have r18 : Reads w' (a.tmps[18]?.getD undef) (superB t) := hdep 3 (by decide) 18 rfl
      exact plan_do (by rfl) (plan_yield (i := 5) (V := fun _ w v => Reads w v (superB t)) (a.tmps[18]?.getD undef) (by go_simp) r18 hK)
  intro a w4 hs4 hdef hsz hv hfr
  have r7 : Reads w4 (a.tmps[7]?.getD undef) (superB s) := hv 4 7 rfl
  have r8 : Reads w4 (a.tmps[8]?.getD undef) (superB t) := hv 5 8 rfl
  have he := act_eq a _ [some 15, some 16, some 17, some 18, some 7, some 8] 68 rfl hsz hdef hfr (fun d => a.tmps[d]?.getD undef) (fun _ _ => rfl)
  obtain ⟨v15, h15⟩ : ∃ v, a.tmps[15]?.getD undef = v := ⟨_, rfl⟩
  obtain ⟨v16, h16⟩ : ∃ v, a.tmps[16]?.getD undef = v := ⟨_, rfl⟩
  obtain ⟨v17, h17⟩ : ∃ v, a.tmps[17]?.getD undef = v := ⟨_, rfl⟩
  obtain ⟨v18, h18⟩ : ∃ v, a.tmps[18]?.getD undef = v := ⟨_, rfl⟩
  obtain ⟨v7, h7⟩ : ∃ v, a.tmps[7]?.getD undef = v := ⟨_, rfl⟩
  obtain ⟨v8, h8⟩ : ∃ v, a.tmps[8]?.getD undef = v := ⟨_, rfl⟩
  rw [h7] at r7
  rw [h8] at r8
  simp only [putAll, h15, h16, h17, h18, h7, h8, List.setIfInBounds_toArray, List.set_cons_zero, List.set_cons_succ] at he
  clear h15 h16 h17 h18 h7 h8 hdef hsz hv hfr
  subst he
  have HK4 : Hid (Same w w4) := Lib.hid (HK3.out.trans hs4 (fun _ _ e => e))
  have HS4 := Lib.hid (HS3.out.keep hs4 (fun e => e))
  have HT4 := Lib.hid (HT3.out.keep hs4 (fun e => e))
  have hls := superB_length s HS.out
  have hlt := superB_length t HT.out
  obtain ⟨ao, c, rfl, hb7, hsp7, hc7⟩ := r7
  obtain ⟨bo, d, rfl, hb8, hsp8, hc8⟩ := r8
  obtain ⟨X, hX⟩ : ∃ X, superB s = X := ⟨_, rfl⟩
  obtain ⟨Y, hY⟩ : ∃ Y, superB t = Y := ⟨_, rfl⟩
  rw [hX] at hls hb7 hsp7 hc7 ⊢
  rw [hY] at hlt hb8 hsp8 hc8 ⊢
  rw [hls] at hc7 hb7 ⊢
  rw [hlt] at hc8 hb8 ⊢
  have HB7 := Lib.hid hb7
  have HB8 := Lib.hid hb8
  have HLX := Lib.hid hls
  have HLY := Lib.hid hlt
  clear hs4 hb7 hb8 hls hlt hsp7 hsp8 hX hY HK3 HS3 HT3
  have hnk : ∃ k : Nat, (bits BinOp.and IntKind.i64 n 1023).tmod 513 = (k : Int) ∧ k ≤ 512 := by
    obtain ⟨h1, h2⟩ := and_mask1023 n
    generalize bits BinOp.and IntKind.i64 n 1023 = x at h1 h2 ⊢
    rw [Int.tmod_eq_emod_of_nonneg h1]
    exact ⟨(x % 513).toNat, by omega, by omega⟩
  obtain ⟨k, hkn, hk512⟩ := hnk
  have hk5 : (k : Int) ≤ 512 := by omega
  have hk0 : (0 : Int) ≤ (k : Int) := by omega
  go_wp2
  obtain ⟨a7, ha7⟩ : ∃ a7, ao = some a7 := by
    rcases HB7.out with ⟨a0, c', e, _⟩ | ⟨c', e, hb⟩
    · simp only [Value.slice.injEq] at e; exact ⟨a0, e.1⟩
    · have := HLX.out; rw [hb] at this; simp at this
  subst ha7
  obtain ⟨a8, ha8⟩ : ∃ a8, bo = some a8 := by
    rcases HB8.out with ⟨a0, c', e, _⟩ | ⟨c', e, hb⟩
    · simp only [Value.slice.injEq] at e; exact ⟨a0, e.1⟩
    · have := HLY.out; rw [hb] at this; simp at this
  subst ha8
  have HXK : Hid (Bytes w4 (.slice (some a7) k c) (X.take k)) := Lib.hid ((HB7.out).take k (by rw [HLX.out]; exact hk512))
  have hcut := Bytes.cut (by rw [HLY.out]; exact HB8.out) k (512 - k) (d - k) (by rw [HLY.out]; omega) (by rw [HLY.out]; exact hc8)
  have htk : (Y.drop k).take (512 - k) = Y.drop k := List.take_of_length_le (by rw [List.length_drop, HLY.out]; exact Nat.le_refl _)
  rw [htk] at hcut
  have HXL : Hid ((X.take k).length = k) := Lib.hid (by rw [List.length_take, HLX.out]; omega)
  have HYL : Hid ((Y.drop k).length = 512 - k) := Lib.hid (by rw [List.length_drop, HLY.out])
  have hkc : (k : Int) ≤ (c : Int) := by omega
  have hkd : (k : Int) ≤ (d : Int) := by omega
  have hd5 : (512 : Int) ≤ (d : Int) := by omega
  have HOE := Lib.hid (own_empty w4 5)
  rw [show (if d = k then some a8 else Option.map (fun x => x.add k) (some a8)) = (if d = k then some a8 else some (a8.add k)) from rfl] at hcut
  have HCUT := Lib.hid hcut
  obtain ⟨X1, hX1⟩ : ∃ X1, X.take k = X1 := ⟨_, rfl⟩
  obtain ⟨Y1, hY1⟩ : ∃ Y1, Y.drop k = Y1 := ⟨_, rfl⟩
  rw [hX1] at HXK HXL
  rw [hY1] at HCUT HYL
  clear hcut htk
  go_region_law
    (first
      | (refine step_append_bytes (by rfl) _ _ 22 5 i0 (by rfl) Tryd.underlying22 hi0 hz0 hz1 hz2 w4.heap.size w4.heap.size 0 [] X1 _ (by rfl) (by rfl) (by first | exact HOE.out | exact HOE.out.drew) (HXK.out.same (by repeat (first | exact Keeps.refl _ _ | refine Keeps.drew ?_ | refine Keeps.alloc ?_ _))) (by rw [HXL.out]; simp; omega) (by show w4.heap.size ≤ (w4.alloc _).heap.size; simp) ?_
         intro g5 c5 w5 ho5 hg5 hat5
         have hs5 : Same w4 w5 := Keeps.grown (by repeat (first | exact Keeps.refl _ _ | refine Keeps.drew ?_ | refine Keeps.alloc ?_ _)) hg5 (fun q e hq => by simp only [Option.some.injEq] at e; omega)
         try simp only [List.length_nil, Nat.zero_add, List.nil_append] at ho5)
      | (refine step_append_bytes (by rfl) _ _ 22 5 i0 (by rfl) Tryd.underlying22 hi0 hz0 hz1 hz2 w4.heap.size g5 c5 X1 Y1 _ (by rfl) (by rfl) (by first | exact ho5 | exact ho5.drew) (HCUT.out.same (by repeat (first | exact hs5 | refine Keeps.drew ?_))) (by rw [HXL.out, HYL.out]; omega) (by first | exact hs5.size | (have := hs5.size; simpa using this)) ?_
         intro g6 c6 w6 ho6 hg6 hat6
         have hs6 : Same w4 w6 := Keeps.grown (by repeat (first | exact hs5 | refine Keeps.drew ?_)) hg6 (fun q e hq => by simp only [Option.some.injEq] at e; have := (ho5.lt g5 rfl).1; omega)))
  generalize (if d = k then some a8 else some (a8.add k)) = P8 at *
  have hml : X1.length + Y1.length = 512 := by rw [HXL.out, HYL.out]; omega
  rw [hml] at ho6 ⊢
  obtain ⟨M, hM⟩ : ∃ M, X1 ++ Y1 = M := ⟨_, rfl⟩
  rw [hM] at ho6
  have hMl : M.length = 512 := by rw [← hM, List.length_append]; exact hml
  have hM0 : M ≠ [] := by intro e; rw [e] at hMl; simp at hMl
  have HR6 : Hid (Reads w6 (.slice (some ⟨g6, 0, none⟩) 512 c6) M) := Lib.hid (Reads.of_own ho6 hMl)
  have HK6 : Hid (Same w w6) := Lib.hid (HK4.out.trans hs6 (fun _ _ e => e))
  have HS6 := Lib.hid (HS4.out.keep hs6 (fun e => e))
  have HT6 := Lib.hid (HT4.out.keep hs6 (fun e => e))
  have HML := Lib.hid hMl
  have HM0 := Lib.hid hM0
  clear hs5 hs6 ho5 ho6 hg5 hg6 hat5 hat6 hml hMl hM0 hM HOE HXK HCUT HXL HYL HB7 HB8 HLX HLY HS4 HT4 HK4 hX1 hY1
  go_wp2_with fail
  ((with_reducible refine (readSuper_reads _ M _ (HN.out.keep HK6.out (fun e => e)) HR6.out HM0.out (by rw [HML.out]; omega)).mono ?_); rintro e w7 ⟨hk7, u, er, rfl, hu⟩)
  have hzs := Tryd.zeroSup
  have HU := Lib.hid hu
  have hok := hu.head
  have HOK := Lib.hid hok
  have HI8 := Lib.hid (Tryd.sizeSup u hok.head)
  have HL8 : Hid ((Tryd.prog.info? 34).map (·.size) = some u.cells.length) := Lib.hid (by have := Tryd.sizeSup u hok.head; simpa using this)
  have HLS : Hid ((Tryd.prog.info? 34).map (·.size) = some s.cells.length) := Lib.hid (by have := HIS.out; simpa using this)
  have HLT : Hid ((Tryd.prog.info? 34).map (·.size) = some t.cells.length) := Lib.hid (by have := HIT.out; simpa using this)
  have HZ8 : Hid (sup0.cells.toArray.size = u.cells.toArray.size) := Lib.hid (by
    rw [List.size_toArray, List.size_toArray, cells_length u hok.head, cells_length sup0 (by simp [sup0])])
  have HN8 : Hid ((w7.alloc (.cells sup0.cells.toArray 34)).heap[w7.heap.size]? = some (.cells sup0.cells.toArray 34 (0, 0))) := Lib.hid (heap_alloc_new w7 _)
  obtain ⟨w8, hw8⟩ : ∃ w8, (w7.alloc (.cells sup0.cells.toArray 34)).setRow w7.heap.size u.cells.toArray = w8 := ⟨_, rfl⟩
  have hk78 : Same w7 w8 := by rw [← hw8]; exact ((Keeps.refl _ _).alloc _).setRow _ _ (.inl (Nat.le_refl _))
  have hU8 : Whole w8 w7.heap.size 34 u.cells := by rw [← hw8]; exact Whole.row (cs := sup0.cells) (heap_alloc_new w7 _)
  have hk68 : Same w6 w8 := hk7.trans hk78 (fun _ _ e => e)
  have HK8 : Hid (Same w w8) := Lib.hid (HK6.out.trans hk68 (fun _ _ e => e))
  have HS8 : Hid (Whole w8 B1 34 s.cells) := Lib.hid (HS6.out.keep hk68 (fun e => e))
  have HT8 : Hid (Whole w8 B2 34 t.cells) := Lib.hid (HT6.out.keep hk68 (fun e => e))
  have HU8 := Lib.hid hU8
  have HR8 := Lib.hid (HR6.out.same hk68)
  have HW8 := Lib.hid hw8
  clear hk7 hk78 hk68 hw8 hU8 hok hu HR6 HK6 HS6 HT6
  generalize hB7 : w7.heap.size = B7 at *
  rcases HU.out with ⟨-, hMu, rfl⟩ | ⟨hno, rfl, rfl⟩
  case inr =>
    go_wp2_with (first
      | (refine wpList_store_row (by rfl) 34 _ _ (by rfl) B7 sup0.cells.toArray (by rfl) (by rfl) 34 sup0.cells.toArray HN8.out HI8.out rfl (sup_all _) ?_; rw [HW8.out]))
    go_ret
    exact ⟨rfl, HK8.out⟩
  have HMU := Lib.hid hMu
  clear hMu
  have HE1 := Lib.hid (sup_equal u s HOK.out.head HS.out.head)
  have HE2 := Lib.hid (sup_equal u t HOK.out.head HT.out.head)
  obtain ⟨b1, hb1⟩ : ∃ b1, decide (u.nums = s.nums ∧ u.head = s.head) = b1 := ⟨_, rfl⟩
  obtain ⟨b2, hb2⟩ : ∃ b2, decide (u.nums = t.nums ∧ u.head = t.head) = b2 := ⟨_, rfl⟩
  rw [hb1] at HE1
  rw [hb2] at HE2
  clear hb1 hb2
  cases b1 with
  | true =>
    go_wp2_with (first
    | (refine wpList_store_row (by rfl) 34 _ _ (by rfl) B7 u.cells.toArray (by rfl) (by rfl) 34 sup0.cells.toArray HN8.out HI8.out HZ8.out (sup_all _) ?_; rw [HW8.out])
      | (refine wpList_load_at (by rfl) 34 _ (by rfl) B7 0 (by rfl) u.cells _ (fun j v hv => by rw [Nat.zero_add]; exact HU8.out.cell hv) Tryd.underlying34 rfl HL8.out ?_)
      | (refine wpList_load_at (by rfl) 34 _ (by rfl) B1 0 (by rfl) s.cells _ (fun j v hv => by rw [Nat.zero_add]; exact HS8.out.cell hv) Tryd.underlying34 rfl HLS.out ?_)
      | (refine wpList_eql_is (by rfl) _ _ 34 _ (by rfl) u.cells.toArray s.cells.toArray true (by rfl) (by rfl) Tryd.supGuard HE1.out ?_))
    go_ret
    exact ⟨rfl, HK8.out⟩
  | false =>
    cases b2 with
    | true =>
      go_wp2_with (first
    | (refine wpList_store_row (by rfl) 34 _ _ (by rfl) B7 u.cells.toArray (by rfl) (by rfl) 34 sup0.cells.toArray HN8.out HI8.out HZ8.out (sup_all _) ?_; rw [HW8.out])
        | (refine wpList_load_at (by rfl) 34 _ (by rfl) B7 0 (by rfl) u.cells _ (fun j v hv => by rw [Nat.zero_add]; exact HU8.out.cell hv) Tryd.underlying34 rfl HL8.out ?_)
        | (refine wpList_load_at (by rfl) 34 _ (by rfl) B1 0 (by rfl) s.cells _ (fun j v hv => by rw [Nat.zero_add]; exact HS8.out.cell hv) Tryd.underlying34 rfl HLS.out ?_)
        | (refine wpList_load_at (by rfl) 34 _ (by rfl) B2 0 (by rfl) t.cells _ (fun j v hv => by rw [Nat.zero_add]; exact HT8.out.cell hv) Tryd.underlying34 rfl HLT.out ?_)
        | (refine wpList_eql_is (by rfl) _ _ 34 _ (by rfl) u.cells.toArray s.cells.toArray false (by rfl) (by rfl) Tryd.supGuard HE1.out ?_)
        | (refine wpList_eql_is (by rfl) _ _ 34 _ (by rfl) u.cells.toArray t.cells.toArray true (by rfl) (by rfl) Tryd.supGuard HE2.out ?_))
      go_ret
      exact ⟨rfl, HK8.out⟩
    | false =>
      go_wp2_with (first
    | (refine wpList_store_row (by rfl) 34 _ _ (by rfl) B7 u.cells.toArray (by rfl) (by rfl) 34 sup0.cells.toArray HN8.out HI8.out HZ8.out (sup_all _) ?_; rw [HW8.out])
        | (refine wpList_load_at (by rfl) 34 _ (by rfl) B7 0 (by rfl) u.cells _ (fun j v hv => by rw [Nat.zero_add]; exact HU8.out.cell hv) Tryd.underlying34 rfl HL8.out ?_)
        | (refine wpList_load_at (by rfl) 34 _ (by rfl) B1 0 (by rfl) s.cells _ (fun j v hv => by rw [Nat.zero_add]; exact HS8.out.cell hv) Tryd.underlying34 rfl HLS.out ?_)
        | (refine wpList_load_at (by rfl) 34 _ (by rfl) B2 0 (by rfl) t.cells _ (fun j v hv => by rw [Nat.zero_add]; exact HT8.out.cell hv) Tryd.underlying34 rfl HLT.out ?_)
        | (refine wpList_eql_is (by rfl) _ _ 34 _ (by rfl) u.cells.toArray s.cells.toArray false (by rfl) (by rfl) Tryd.supGuard HE1.out ?_)
        | (refine wpList_eql_is (by rfl) _ _ 34 _ (by rfl) u.cells.toArray t.cells.toArray false (by rfl) (by rfl) Tryd.supGuard HE2.out ?_))
      have HM0' := HML.out
      refine wp_region_do [[], [0], [1], [], [3], [2, 4], [5, 1, 0, 1, 2, 3, 4, 5]] [some 62, some 63, some 64, some 65, some 66, some 67, some 6]
        [.is (supV u), .reads (superB u), .is (strV M), .is (.slice (some ⟨g6, 0, none⟩) 512 c6), .is (strV M), .is (.bool true), .is (.bool true)]
        11 _ _ 68 7 (by kernel_rfl) (by rfl) (by rfl) (by kernel_rfl) (by kernel_rfl) (by decide) ?_ ?_
      · refine ⟨?_, ?_, ?_, ?_, ?_, ?_, ?_, trivial⟩
        · intro a w' K hs' hdep hfr hK
          have f := hfr 11 (by decide)
          exact plan_do (by rfl) (wp_load_row 34 (.tmp 11) rfl B7 ((eval_tmp _ _).trans f) 34 u.cells.toArray (0, 0) _ (HU8.out.keep hs' (fun e => e)) Tryd.underlying34 rfl HI8.out (hK _ _ (Keeps.refl _ _) rfl))
        · intro a w' K hs' hdep hfr hK
          have e62 : a.tmps[62]?.getD undef = supV u := hdep 0 (by decide) 62 rfl
          refine plan_do (by rfl) (plan_call 16 #[supV u] (by go_simp) ?_)
          exact (rsuper_out u HOK.out w').mono fun e w'' ⟨hk, g, c, he, hr⟩ => ⟨_, he, hK _ _ hk hr⟩
        · intro a w' K hs' hdep hfr hK
          have e63 : Reads w' (a.tmps[63]?.getD undef) (superB u) := hdep 1 (by decide) 63 rfl
          rw [← HMU.out] at e63
          have k63 := run_reads e63
          exact plan_do (by rfl) (plan_yield (i := 2) (V := fun _ _ v => v = strV M) (strV M) (by go_simp) rfl hK)
        · intro a w' K hs' hdep hfr hK
          have f10 := hfr 10 (by decide)
          exact plan_do (by rfl) (plan_yield (i := 3) (V := fun _ _ v => v = .slice (some ⟨g6, 0, none⟩) 512 c6) (.slice (some ⟨g6, 0, none⟩) 512 c6) (by go_simp) rfl hK)
        · intro a w' K hs' hdep hfr hK
          have e65 : a.tmps[65]?.getD undef = .slice (some ⟨g6, 0, none⟩) 512 c6 := hdep 3 (by decide) 65 rfl
          have k65 := run_reads (HR8.out.same hs')
          exact plan_do (by rfl) (plan_yield (i := 4) (V := fun _ _ v => v = strV M) (strV M) (by go_simp) rfl hK)
        · intro a w' K hs' hdep hfr hK
          have e64 : a.tmps[64]?.getD undef = strV M := hdep 2 (by decide) 64 rfl
          have e66 : a.tmps[66]?.getD undef = strV M := hdep 4 (by decide) 66 rfl
          exact plan_do (by rfl) (plan_yield (i := 5) (V := fun _ _ v => v = .bool true) (.bool true) (by go_simp) rfl hK)
        · intro a w' K hs' hdep hfr hK
          have e67 : a.tmps[67]?.getD undef = .bool true := hdep 5 (by decide) 67 rfl
          exact plan_do (by rfl) (plan_yield (i := 6) (V := fun _ _ v => v = .bool true) (.bool true) (by go_simp) rfl hK)
      · intro a w' hs' hdef hsz hv hfr
        have e6 : a.tmps[6]?.getD undef = .bool true := hv 6 6 rfl
        go_wp2
        refine bodyPost_ret (results_tmp (t := 6) rfl _ _ _) hdef ⟨?_, HK8.out.trans hs' (fun _ _ e => e)⟩
        rw [Array.getD_eq_getD_getElem?, e6]

end Go.Proofs.YtiddnhnfpggomaaDoor
