/- (*state).mix -/
import Derived.Test.YtcbkopjklbiheaaDoorSha2
import Derived.StillTailTactics
namespace Go.Proofs.YtcbkopjklbiheaaDoor
open Go.RowKit
set_option linter.unusedVariables false

set_option maxRecDepth 100000 in
set_option maxHeartbeats 25600000 in
theorem mix_any (B n : Nat) (s : St) (ch : List UInt8) (w : World) (hw : Whole w B 126 (hcells s ch n)) (hl : ch.length = 64) (hB : 0 < B)
    (hK : ∀ t, t < 64 → w.cell? ⟨0, t, none⟩ = some (.int .u32 (wn (roundKs.getD t 0)))) :
    Calls Tryd.prog 78 #[.pointer (some ⟨B, 0, none⟩), .pointer (some ⟨B, 8, none⟩)] w fun e w' => e = .returned (.tuple #[]) ∧ Whole w' B 126 (hcells (mixed s ch) ch n) ∧ Keeps (fun k => k = B) w w' := by
  have HW := Lib.hid hw
  have HK := Lib.hid hK
  have HL := Lib.hid hl
  have hBl := hw.lt
  clear hw hK hl
  go_enter Tryd.func78, Tryd.ntmps78
  go_wp2
  go_loopw [22] (fun i wr => ∃ j : Nat, j ≤ 16 ∧ i = .int .i64 j ∧ Whole wr w.heap.size 108 (u32s (upTo (words16 ch) j 64)) ∧ Same w wr) (fun i _ => 16 - (intOf i).toNat)
  case atStart => exact ⟨0, by omega, rfl, heap_alloc_new _ _, (Keeps.refl _ _).alloc _⟩
  case round =>
    obtain ⟨j, hj, rfl, hx, hs⟩ := hrel
    have HX := Lib.hid hx
    have HS := Lib.hid hs
    have hwr := hx.lt
    clear hx hs
    by_cases hlt : j < 16
    · have c0 := (HW.out.keep HS.out (fun e => e)).cell (hcells_byte s ch n (4 * j) HL.out (by omega))
      have c1 := (HW.out.keep HS.out (fun e => e)).cell (hcells_byte s ch n (4 * j + 1) HL.out (by omega))
      have c2 := (HW.out.keep HS.out (fun e => e)).cell (hcells_byte s ch n (4 * j + 2) HL.out (by omega))
      have c3 := (HW.out.keep HS.out (fun e => e)).cell (hcells_byte s ch n (4 * j + 3) HL.out (by omega))
      have HW4 : Hid ((words16 ch)[j]'(by rw [words16_length]; exact hlt) = word4 (ch.getD (4 * j) 0) (ch.getD (4 * j + 1) 0) (ch.getD (4 * j + 2) 0) (ch.getD (4 * j + 3) 0)) := Lib.hid (words16_get ch j hlt)
      rw [ext_wn] at c0 c1 c2 c3
      have x0 := ext_small (ch.getD (4 * j) 0)
      have x1 := ext_small (ch.getD (4 * j + 1) 0)
      have x2 := ext_small (ch.getD (4 * j + 2) 0)
      have x3 := ext_small (ch.getD (4 * j + 3) 0)
      generalize ch.getD (4 * j) 0 = b0 at *
      generalize ch.getD (4 * j + 1) 0 = b1 at *
      generalize ch.getD (4 * j + 2) 0 = b2 at *
      generalize ch.getD (4 * j + 3) 0 = b3 at *
      have y0 := (wn_bound (ext b0)).1
      have y1 := (wn_bound (ext b1)).1
      have y2 := (wn_bound (ext b2)).1
      have y3 := (wn_bound (ext b3)).1
      have w4 : IntKind.i64.wrap (4 * (j : Int)) = 4 * (j : Int) := IntWalk.i64_in _ (by omega)
      have w5 : IntKind.i64.wrap (4 * (j : Int) + 1) = 4 * (j : Int) + 1 := IntWalk.i64_in _ (by omega)
      have w6 : IntKind.i64.wrap (4 * (j : Int) + 2) = 4 * (j : Int) + 2 := IntWalk.i64_in _ (by omega)
      have w7 : IntKind.i64.wrap (4 * (j : Int) + 3) = 4 * (j : Int) + 3 := IntWalk.i64_in _ (by omega)
      have p0 : (0 : Int) ≤ 4 * (j : Int) := by omega
      have q0 : 4 * (j : Int) < 64 := by omega
      have p1 : (0 : Int) ≤ 4 * (j : Int) + 1 := by omega
      have q1 : 4 * (j : Int) + 1 < 64 := by omega
      have p2 : (0 : Int) ≤ 4 * (j : Int) + 2 := by omega
      have q2 : 4 * (j : Int) + 2 < 64 := by omega
      have p3 : (0 : Int) ≤ 4 * (j : Int) + 3 := by omega
      have q3 : 4 * (j : Int) + 3 < 64 := by omega
      have t0 : (4 * (j : Int)).toNat = 4 * j := by omega
      have t1 : (4 * (j : Int) + 1).toNat = 4 * j + 1 := by omega
      have t2 : (4 * (j : Int) + 2).toNat = 4 * j + 2 := by omega
      have t3 : (4 * (j : Int) + 3).toNat = 4 * j + 3 := by omega
      have hx0 := HX.out.cell (i := j) (u32s_get _ _ (by rw [upTo_length _ _ _ (by rw [words16_length]; omega) (by omega)]; omega))
      have hf0 := HX.out.free j
      have j0 : (0 : Int) ≤ (j : Int) := by omega
      have j1 : (j : Int) < 64 := by omega
      go_wp2
      go_still_tail 39, (by kernel_rfl)
      change wpList _ _ _ _ _ wr.drew
      clear c0 c1 c2 c3 x0 x1 x2 x3 y0 y1 y2 y3 w4 w5 w6 w7 p0 q0 p1 q1 p2 q2 p3 q3 t0 t1 t2 t3
      simp only [wrap_wn, w_shl24, w_shl16, w_shl8, w_or]
      go_wp2
      go_roundw
      case rel =>
        refine ⟨j + 1, by omega, by go_num, ?_, HS.out.drew.setCell _ _ (.inl (Nat.le_refl _))⟩
        rw [← upTo_succ _ _ _ (by rw [words16_length]; exact hlt) (by omega), u32s_set, HW4.out]
        exact HX.out.set _ _
      case measure => simp [intOf]; omega
    · obtain rfl : j = 16 := by omega
      have HX2 : Hid (Whole wr w.heap.size 108 (u32s (fill (sched ch 0) 64))) := Lib.hid (by
        have := HX.out
        have e : upTo (words16 ch) 16 64 = fill (sched ch 0) 64 := by
          unfold upTo fill
          rw [List.take_of_length_le (by rw [words16_length]; omega)]
          simp [sched, words16_length]
        rwa [e] at this)
      clear HX
      go_wp2
      go_loopw [6] (fun i w2 => ∃ k : Nat, k ≤ 48 ∧ i = .int .i64 ((16 + k : Nat) : Int) ∧ Whole w2 w.heap.size 108 (u32s (fill (sched ch k) 64)) ∧ Same w w2) (fun i _ => 64 - (intOf i).toNat)
      case atStart => exact ⟨0, by omega, rfl, HX2.out, HS.out⟩
      case round =>
        obtain ⟨k, hk, rfl, hx, hs⟩ := hrel
        clear HX2 HS hwr
        obtain ⟨wq, rfl⟩ : ∃ wq : World, wq = wr := ⟨_, rfl⟩
        have HX := Lib.hid hx
        have HS := Lib.hid hs
        have hwq := hx.lt
        clear hx hs
        have hsl := sched_length ch k
        by_cases hlt2 : k < 48
        · have g16 := HX.out.cell (i := k) (u32s_get _ _ (by rw [fill_length _ _ (by omega)]; omega))
          have f16 := fill_get (sched ch k) 64 k (by omega)
          have f15 := fill_get (sched ch k) 64 (k + 1) (by omega)
          have f7 := fill_get (sched ch k) 64 (k + 9) (by omega)
          have f2 := fill_get (sched ch k) 64 (k + 14) (by omega)
          have c16 : wq.cell? ⟨w.heap.size, k, none⟩ = some (.int .u32 (wn ((sched ch k).getD k 0))) := HX.out.cell (by rw [u32s, List.getElem?_map, f16]; rfl)
          have c15 : wq.cell? ⟨w.heap.size, k + 1, none⟩ = some (.int .u32 (wn ((sched ch k).getD (k + 1) 0))) := HX.out.cell (by rw [u32s, List.getElem?_map, f15]; rfl)
          have c7 : wq.cell? ⟨w.heap.size, k + 9, none⟩ = some (.int .u32 (wn ((sched ch k).getD (k + 9) 0))) := HX.out.cell (by rw [u32s, List.getElem?_map, f7]; rfl)
          have c2 : wq.cell? ⟨w.heap.size, k + 14, none⟩ = some (.int .u32 (wn ((sched ch k).getD (k + 14) 0))) := HX.out.cell (by rw [u32s, List.getElem?_map, f2]; rfl)
          have cd := HX.out.cell (i := 16 + k) (v := .int .u32 (wn ((fill (sched ch k) 64).getD (16 + k) 0))) (by
            rw [u32s_get _ _ (by rw [fill_length _ _ (by omega)]; omega)]
            simp [List.getD, show 16 + k < (fill (sched ch k) 64).length from by rw [fill_length _ _ (by omega)]; omega])
          have hf0 := HX.out.free (16 + k)
          have HN : Hid (nextW (sched ch k) = (((sched ch k).getD k 0 + (sched ch k).getD (k + 9) 0) + sig0 ((sched ch k).getD (k + 1) 0)) + sig1 ((sched ch k).getD (k + 14) 0)) := Lib.hid (by
            unfold nextW
            rw [hsl, show 16 + k - 16 = k from by omega, show 16 + k - 7 = k + 9 from by omega, show 16 + k - 15 = k + 1 from by omega, show 16 + k - 2 = k + 14 from by omega])
          have HSL := Lib.hid hsl
          generalize (sched ch k).getD k 0 = x16 at *
          generalize (sched ch k).getD (k + 1) 0 = x15 at *
          generalize (sched ch k).getD (k + 9) 0 = x7 at *
          generalize (sched ch k).getD (k + 14) 0 = x2 at *
          generalize (fill (sched ch k) 64).getD (16 + k) 0 = xd at *
          clear f16 f15 f7 f2 hsl g16
          obtain ⟨m, hm⟩ : ∃ m : Nat, 16 + k = m := ⟨_, rfl⟩
          rw [hm] at cd hf0 ⊢
          have hmk : m < 64 := by omega
          have s15 : IntKind.i64.wrap ((m : Int) - 15) = (m : Int) - 15 := IntWalk.i64_in _ (by omega)
          have s2 : IntKind.i64.wrap ((m : Int) - 2) = (m : Int) - 2 := IntWalk.i64_in _ (by omega)
          have s16 : IntKind.i64.wrap ((m : Int) - 16) = (m : Int) - 16 := IntWalk.i64_in _ (by omega)
          have s7 : IntKind.i64.wrap ((m : Int) - 7) = (m : Int) - 7 := IntWalk.i64_in _ (by omega)
          have p15 : (0 : Int) ≤ (m : Int) - 15 := by omega
          have p2 : (0 : Int) ≤ (m : Int) - 2 := by omega
          have p16 : (0 : Int) ≤ (m : Int) - 16 := by omega
          have p7 : (0 : Int) ≤ (m : Int) - 7 := by omega
          have q15 : (m : Int) - 15 < 64 := by omega
          have q2 : (m : Int) - 2 < 64 := by omega
          have q16 : (m : Int) - 16 < 64 := by omega
          have q7 : (m : Int) - 7 < 64 := by omega
          have t15 : ((m : Int) - 15).toNat = k + 1 := by omega
          have t2 : ((m : Int) - 2).toNat = k + 14 := by omega
          have t16 : ((m : Int) - 16).toNat = k := by omega
          have t7 : ((m : Int) - 7).toNat = k + 9 := by omega
          have HM : Hid (16 + k = m) := Lib.hid hm
          have m0 : (0 : Int) ≤ (m : Int) := by omega
          have m1 : (m : Int) < 64 := by omega
          have v15 : (15 : Int) ≤ (m : Int) := by omega
          have v2 : (2 : Int) ≤ (m : Int) := by omega
          have v16 : (16 : Int) ≤ (m : Int) := by omega
          have v7 : (7 : Int) ≤ (m : Int) := by omega
          clear hm
          go_wp2
          go_quiet (fail)
          go_wp2
          obtain ⟨wz, hwz⟩ : ∃ wz, World.drewN wq nq = wz := ⟨_, rfl⟩
          rw [hwz]
          have c16 : wz.cell? ⟨w.heap.size, k, none⟩ = some (.int .u32 (wn x16)) := by rw [← hwz]; exact c16
          have c15 : wz.cell? ⟨w.heap.size, k + 1, none⟩ = some (.int .u32 (wn x15)) := by rw [← hwz]; exact c15
          have c7 : wz.cell? ⟨w.heap.size, k + 9, none⟩ = some (.int .u32 (wn x7)) := by rw [← hwz]; exact c7
          have c2 : wz.cell? ⟨w.heap.size, k + 14, none⟩ = some (.int .u32 (wn x2)) := by rw [← hwz]; exact c2
          have cd : wz.cell? ⟨w.heap.size, m, none⟩ = some (.int .u32 (wn xd)) := by rw [← hwz]; exact cd
          have hf0 : wz.frozen? ⟨w.heap.size, m, none⟩ = false := by rw [← hwz]; exact hf0
          have HX : Hid (Whole wz w.heap.size 108 (u32s (fill (sched ch k) 64))) := Lib.hid (by rw [← hwz]; exact HX.out)
          have HS : Hid (Same w wz) := Lib.hid (by rw [← hwz]; exact HS.out.drewN nq)
          clear hwz
          refine wp_region_still_tail 29 (by kernel_rfl) (by kernel_rfl) ?_
          simp only [List.take_succ_cons, List.take_zero, List.drop_succ_cons, List.drop_zero]
          repeat still_step
          still_call (rot7 x15 _)
          repeat still_step
          still_call (rot18 x15 _)
          repeat still_step
          still_call (rot17 x2 _)
          repeat still_step
          still_call (rot19 x2 _)
          repeat still_step
          refine wpStill_nil ?_
          change wpList _ _ _ _ _ wz.drew
          clear c16 c15 c7 c2 s15 s2 s16 s7 p15 p2 p16 p7 q15 q2 q16 q7 t15 t2 t16 t7 v15 v2 v16 v7
          simp only [w_xor, w_wrap_add]
          go_wp2
          go_roundw
          case rel =>
            have hd := HX.out.set m (.int .u32 (wn (nextW (sched ch k))))
            rw [← u32s_set, show (fill (sched ch k) 64).set m (nextW (sched ch k)) = fill (sched ch k ++ [nextW (sched ch k)]) 64 from by
              rw [show m = (sched ch k).length from by rw [HSL.out, HM.out]]
              exact fill_snoc _ _ (by rw [HSL.out]; omega) _] at hd
            have hv : (wn (x16 + x7) + bits BinOp.xor IntKind.u32 (wn (rr x15 7 ^^^ rr x15 18)) (wn x15 / 8) + bits BinOp.xor IntKind.u32 (wn (rr x2 17 ^^^ rr x2 19)) (wn x2 / 1024)) % 4294967296 = wn (nextW (sched ch k)) := by
              rw [w_shr3, w_shr10, w_xor, w_xor, w_add3, HN.out]; rfl
            repeat apply Exists.intro
            refine ⟨⟨k + 1, by omega, by have h9 := HM.out; rw [show 16 + (k + 1) = m + 1 from by omega]; go_num, ?_, ?_⟩, rfl⟩
            · rw [hv]; exact hd
            · exact (HS.out.setCell _ _ (.inl (Nat.le_refl _))).drew
          case measure => simp [intOf]; omega
        · obtain rfl : k = 48 := by omega
          have e0 : fill (sched ch 48) 64 = sched ch 48 := by unfold fill; rw [hsl]; simp
          have hX := HX.out
          rw [e0] at hX
          clear HX
          have HX := Lib.hid hX
          have HSL := Lib.hid hsl
          clear hX e0 hsl
          have HWq := HW.out.keep HS.out (fun e => e)
          have d0 : wq.cell? ⟨B, 0, none⟩ = some (.int .u32 (wn s.a)) := HWq.cell (hcells_word s ch n 0 (by omega))
          have d1 : wq.cell? ⟨B, 1, none⟩ = some (.int .u32 (wn s.b)) := HWq.cell (hcells_word s ch n 1 (by omega))
          have d2 : wq.cell? ⟨B, 2, none⟩ = some (.int .u32 (wn s.c)) := HWq.cell (hcells_word s ch n 2 (by omega))
          have d3 : wq.cell? ⟨B, 3, none⟩ = some (.int .u32 (wn s.d)) := HWq.cell (hcells_word s ch n 3 (by omega))
          have d4 : wq.cell? ⟨B, 4, none⟩ = some (.int .u32 (wn s.e)) := HWq.cell (hcells_word s ch n 4 (by omega))
          have d5 : wq.cell? ⟨B, 5, none⟩ = some (.int .u32 (wn s.f)) := HWq.cell (hcells_word s ch n 5 (by omega))
          have d6 : wq.cell? ⟨B, 6, none⟩ = some (.int .u32 (wn s.g)) := HWq.cell (hcells_word s ch n 6 (by omega))
          have d7 : wq.cell? ⟨B, 7, none⟩ = some (.int .u32 (wn s.h)) := HWq.cell (hcells_word s ch n 7 (by omega))
          have HWQ := Lib.hid HWq
          clear HWq
          go_wp2
          go_quiet (fail)
          clear d0 d1 d2 d3 d4 d5 d6 d7
          go_wp2
          obtain ⟨w3, hw3⟩ : ∃ w3, World.drewN wq nq = w3 := ⟨_, rfl⟩
          rw [hw3]
          have HX : Hid (Whole w3 w.heap.size 108 (u32s (sched ch 48))) := Lib.hid (by rw [← hw3]; exact HX.out)
          have HS : Hid (Same w w3) := Lib.hid (by rw [← hw3]; exact HS.out.drewN nq)
          have HWQ : Hid (Whole w3 B 126 (hcells s ch n)) := Lib.hid (by rw [← hw3]; exact HWQ.out)
          clear hw3
          go_loopw [9, 10, 11, 12, 13, 14, 15, 16, 138] (fun a b c d e f g h i w4 => ∃ t : Nat, t ≤ 64 ∧ i = .int .i64 t ∧ (∃ q, w4 = w3.drewN q) ∧ ∃ r : St, r = rounds s (sched ch 48) t ∧ a = .int .u32 (wn r.a) ∧ b = .int .u32 (wn r.b) ∧ c = .int .u32 (wn r.c) ∧ d = .int .u32 (wn r.d) ∧ e = .int .u32 (wn r.e) ∧ f = .int .u32 (wn r.f) ∧ g = .int .u32 (wn r.g) ∧ h = .int .u32 (wn r.h)) (fun _ _ _ _ _ _ _ _ i _ => 64 - (intOf i).toNat)
          case atStart => exact ⟨0, by omega, rfl, ⟨0, rfl⟩, s, rfl, rfl, rfl, rfl, rfl, rfl, rfl, rfl, rfl⟩
          case round =>
            obtain ⟨t, ht, rfl, ⟨q, hq⟩, r, hr, rfl, rfl, rfl, rfl, rfl, rfl, rfl, rfl⟩ := hrel
            obtain ⟨w5, rfl⟩ : ∃ w5 : World, w5 = wr := ⟨_, rfl⟩
            have HQ := Lib.hid hq
            clear hq
            have HRR := Lib.hid hr
            clear hr
            by_cases htl : t < 64
            · have ck : w5.cell? ⟨0, t, none⟩ = some (.int .u32 (wn (roundKs.getD t 0))) := by
                rw [HQ.out]
                exact (World.cell?_of_block (w := w) (a := ⟨0, t, none⟩) (HS.out.block 0 (by omega) (fun e => e))).trans (HK.out t htl)
              have cw : w5.cell? ⟨w.heap.size, t, none⟩ = some (.int .u32 (wn ((sched ch 48).getD t 0))) := by
                rw [HQ.out]
                refine HX.out.cell ?_
                rw [u32s_get _ _ (by rw [HSL.out]; omega)]
                simp [List.getD, show t < (sched ch 48).length from by rw [HSL.out]; omega]
              have HR2 : Hid (rounds s (sched ch 48) (t + 1) = step r (roundKs.getD t 0) ((sched ch 48).getD t 0)) := Lib.hid (by rw [HRR.out]; rfl)
              generalize roundKs.getD t 0 = kk at *
              generalize (sched ch 48).getD t 0 = xx at *
              have htl2 : (t : Int) < 64 := by omega
              have ht0 : (0 : Int) ≤ (t : Int) := by omega
              go_wp2
              go_quiet ((first
                | (go_at_call 81; with_reducible exact Calls.quiet_of_same (rot6 r.e _))
                | (go_at_call 81; with_reducible exact Calls.quiet_of_same (rot11 r.e _))
                | (go_at_call 81; with_reducible exact Calls.quiet_of_same (rot25 r.e _))))
              clear ck cw
              simp only [w_notI, w_and, w_xor, w_add, w_add3, w_add4]
              go_wp2_with fail
              ((with_reducible refine (rot2 r.a _).mono ?_); rintro e w6 ⟨rfl, hw6⟩; subst hw6)
              go_wp2_with fail
              ((with_reducible refine (rot13 r.a _).mono ?_); rintro e w6 ⟨rfl, hw6⟩; subst hw6)
              go_wp2_with fail
              ((with_reducible refine (rot22 r.a _).mono ?_); rintro e w6 ⟨rfl, hw6⟩; subst hw6)
              go_wp2
              go_roundw
              case rel =>
                repeat apply Exists.intro
                refine ⟨⟨t + 1, by omega, by go_num, ⟨q + nq, by rw [HQ.out]; exact World.drewN_drewN _ _ _⟩, step r kk xx, HR2.out.symm, ?_, ?_, ?_, ?_, ?_, ?_, ?_, ?_⟩, rfl⟩
                all_goals (first | rfl | (simp only [w_and, w_xor, w_add]; rfl))
              case measure => simp [intOf]; omega
            · obtain rfl : t = 64 := by omega
              have HXX : Hid (s.add r = mixed s ch) := Lib.hid (by rw [HRR.out]; rfl)
              have HW5 : Hid (Whole w5 B 126 (u32s (addUp s r 0) ++ (u8s ch ++ [.int .u64 (n : Int)]))) := Lib.hid (by
                rw [HQ.out, addUp_zero, ← hcells_def]; exact HWQ.out)
              have HS5 : Hid (Same w w5) := Lib.hid (by rw [HQ.out]; exact HS.out.drewN q)
              clear HQ HRR HWQ HX HS
              go_wp2
              go_loopw [20, 21, 210] (fun _ _ i w6 => ∃ k : Nat, k ≤ 8 ∧ i = .int .i64 k ∧ Whole w6 B 126 (u32s (addUp s r k) ++ (u8s ch ++ [.int .u64 (n : Int)])) ∧ Keeps (fun k => k = B) w w6) (fun _ _ i _ => 8 - (intOf i).toNat)
              case atStart => exact ⟨0, by omega, rfl, HW5.out, HS5.out.any⟩
              case round =>
                clear HW5 HS5
                obtain ⟨k, hk, rfl, hx, hs⟩ := hrel
                obtain ⟨w6, rfl⟩ : ∃ w6 : World, w6 = wr := ⟨_, rfl⟩
                have HX := Lib.hid hx
                have HS := Lib.hid hs
                clear hx hs
                by_cases hk8 : k < 8
                · have cx : w6.cell? ⟨B, k, none⟩ = some (.int .u32 (wn (s.list.getD k 0))) := HX.out.cell (words_get _ _ _ _ (addUp_get s r k hk8))
                  have fx := HX.out.free k
                  have hidx : ∀ w', (Instr.index 110 (.agg #[.int .u32 (wn r.a), .int .u32 (wn r.b), .int .u32 (wn r.c), .int .u32 (wn r.d), .int .u32 (wn r.e), .int .u32 (wn r.f), .int .u32 (wn r.g), .int .u32 (wn r.h)]) (.int .i64 (k : Int))).run Tryd.prog w' = .ok (.int .u32 (wn (r.list.getD k 0))) w' := by
                    intro w'
                    rcases (by omega : k = 0 ∨ k = 1 ∨ k = 2 ∨ k = 3 ∨ k = 4 ∨ k = 5 ∨ k = 6 ∨ k = 7) with rfl | rfl | rfl | rfl | rfl | rfl | rfl | rfl <;> rfl
                  have HA : Hid (u32s (addUp s r (k + 1)) ++ (u8s ch ++ [Value.int .u64 (n : Int)]) = (u32s (addUp s r k) ++ (u8s ch ++ [Value.int .u64 (n : Int)])).set k (.int .u32 (wn (s.list.getD k 0 + r.list.getD k 0)))) := Lib.hid (by
                    rw [words_set _ _ _ (by rw [addUp_length _ _ _ hk]; exact hk8), addUp_set s r k hk8])
                  generalize s.list.getD k 0 = x1 at *
                  generalize r.list.getD k 0 = x2 at *
                  have hk2 : (k : Int) < 8 := by omega
                  have hk0 : (0 : Int) ≤ (k : Int) := by omega
                  go_wp2
                  go_still_tail 9, (by kernel_rfl)
                  change wpList _ _ _ _ _ w6.drew
                  go_wp2
                  go_roundw
                  case rel =>
                    repeat apply Exists.intro
                    refine ⟨⟨k + 1, by omega, by go_num, ?_, ?_⟩, rfl⟩
                    · rw [HA.out, ← w_add]; exact HX.out.set _ _
                    · exact (HS.out.setCell _ _ (.inr rfl)).drew
                  case measure => simp [intOf]; omega
                · obtain rfl : k = 8 := by omega
                  have HF : Hid (Whole w6 B 126 (hcells (mixed s ch) ch n)) := Lib.hid (by
                    have := HX.out
                    rw [addUp_all, HXX.out] at this
                    rw [hcells_def]; exact this)
                  clear HX
                  go_wp2
                  go_end0
                  exact ⟨rfl, HF.out, HS.out⟩

end Go.Proofs.YtcbkopjklbiheaaDoor
