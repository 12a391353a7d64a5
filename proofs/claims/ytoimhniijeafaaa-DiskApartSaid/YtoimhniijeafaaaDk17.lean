/- The walk of DiskApart. -/
import Derived.Test.YtoimhniijeafaaaDk16
namespace Go.Proofs.Ytoimhniijeafaaa
open Go.RowKit
set_option linter.unusedVariables false

set_option maxRecDepth 100000 in
set_option maxHeartbeats 12800000 in
theorem apart_ok (w : World) (ao fo : Option Addr) (n cap nf fc : Nat) (ops : List LOp) (fs : List Int) (hn : n = ops.length) (h : Ops w ao ops) (hnf : nf = fs.length) (hf : Ints w (.slice fo nf fc) fs) :
    Calls Try.prog 8 #[.slice ao n cap, .slice fo nf fc] w fun e w' => e = .returned (.bool true) ∧ Same w w' := by
  have HN := Lib.hid hn
  have HO := Lib.hid h
  have HNF := Lib.hid hnf
  have HF := Lib.hid hf
  clear hn h hnf hf
  cases hq : greatOf ops with
  | true =>
    have HQ := Lib.hid hq
    clear hq
    go_enter Try.func8, Try.ntmps8
    go_wp2_with fail
    (refine (speaks_ok _).mono ?_); rintro e w0 ⟨rfl, hk0⟩
    have HK0 := Lib.hid hk0
    clear hk0
    go_wp2_with fail
    (refine (great_ok' true _ ao n cap ops HN.out (HO.out.same HK0.out) HQ.out).mono ?_); rintro e w1 ⟨rfl, hk⟩
    go_wp2
    go_ret
    exact ⟨rfl, HK0.out.trans hk (fun _ _ e => e)⟩
  | false =>
  have HQ := Lib.hid hq
  have HGR := Lib.hid (great_of ops hq)
  have hnb : n ≤ 1000 := by have := HN.out; have := HGR.out.1; omega
  clear hq
  go_enter Try.func8, Try.ntmps8
  go_wp2_with fail
  (refine (speaks_ok _).mono ?_); rintro e w0 ⟨rfl, hk0⟩
  have HK0 := Lib.hid hk0
  clear hk0
  go_wp2_with fail
  (refine (great_ok' false _ ao n cap ops HN.out (HO.out.same HK0.out) HQ.out).mono ?_); rintro e w1 ⟨rfl, hk⟩
  have HK1 : Hid (Same w w1) := Lib.hid (HK0.out.trans hk (fun _ _ e => e))
  clear HK0 hk
  go_wp2_with fail
  (refine (dk_new 4 _ (by decide) (by decide)).mono ?_); rintro e w2 ⟨D, F0, rfl, hd, hk, hf0⟩
  rw [show Int.toNat 4 = 4 from rfl, st_new] at hd
  obtain ⟨L, hL⟩ : ∃ L, List.replicate 4 noughts = L := ⟨_, rfl⟩
  rw [hL] at hd
  have HL : Hid (L.length = 4) := Lib.hid (by rw [← hL]; exact List.length_replicate)
  have HI := Lib.hid (SpI.of_new hd (HK1.out.trans hk (fun _ _ e => e)) (fun k e => by have := hf0 k e; have := HK1.out.size; omega))
  clear hd hk hf0 HK1 hL
  go_wp2
  go_loopw [32] (fun i wr => ∃ (j : Nat) (O : List (Nat × List UInt8)) (F : Nat → Prop), j ≤ n ∧ i = .int .i64 j ∧ SpI w wr D F (st L O) [] ∧ O.length = j) (fun i _ => n - (intOf i).toNat)
  case atStart => exact ⟨0, [], F0, by omega, rfl, HI.out, rfl⟩
  case round =>
    obtain ⟨j, O, F, hj, rfl, hi, hol⟩ := hrel
    have HI2 := Lib.hid hi
    have HOL := Lib.hid hol
    clear hi hol
    by_cases hlt : j < n
    · have hlt2 : (j : Int) < (n : Int) := by omega
      have hjo : j < ops.length := by have := HN.out; omega
      obtain ⟨go, off, rfl, hat⟩ := (HO.out.same HI2.out.2.1).at (by omega)
      have hat2 := hat j hjo
      have HLS := Lib.hid (sizeLOp ops[j])
      generalize ops[j] = x at *
      have HRA := Lib.hid hat2.1
      obtain ⟨BX, hBX⟩ : ∃ BX, filled x.ds = BX := ⟨_, rfl⟩
      have HBL : Hid (BX.length = 512) := Lib.hid (by rw [← hBX]; exact filled_length _)
      have HBX := Lib.hid hBX
      obtain ⟨p, hp⟩ : ∃ p : Nat, x.at' % 4 = (p : Int) := ⟨(x.at' % 4).toNat, by omega⟩
      have HP : Hid (p < L.length) := Lib.hid (by rw [HL.out]; omega)
      have EM : Hid (bits BinOp.and IntKind.i64 x.at' 3 = (p : Int)) := Lib.hid (by rw [and_3]; exact hp)
      obtain ⟨w3, hst, hb3, hk3, hs3⟩ := store_lop wr x
      have HOB := Lib.hid (show Whole w3 wr.heap.size 34 x.cells from hb3)
      have HIN : Hid (x.In w3) := Lib.hid ⟨hat2.2.1.same hk3, hat2.2.2.same hk3⟩
      have HI3 := Lib.hid (HI2.out.same hk3)
      clear hb3 hk3 hat hat2 hBX hp hs3
      go_wp2_with (refine wpList_load_mid (by rfl) 34 _ (by rfl) go (off + j * 5) (by rfl) x.cells _ HRA.out Try.underlying34 rfl HLS.out ?_)
      clear hst
      refine wp_region_tail [[], [], [1], [2], [], [4], [5], [6], [0, 3, 7, 7]]
        [some 36, some 37, some 38, some 39, some 40, some 41, some 42, some 43, some 44]
        [.is (.pointer (some ⟨D, 0, none⟩)), .is (.pointer (some ⟨wr.heap.size, 1, none⟩)), .is (.int .i64 x.at'), .is (.int .i64 (p : Nat)), .is (.pointer (some ⟨wr.heap.size, 2, none⟩)), .is (.slice x.da x.ds.length x.dc), .is (opv 0 0 (.slice x.da x.ds.length x.dc) false (.slice none 0 0)), .own 5 BX]
        (fun _ => False) [] (fun _ _ => True) 11 _ _ 109 8 9 (by kernel_rfl) (by rfl) (by rfl) (by omega) (by kernel_rfl) (by kernel_rfl) (by decide) (by decide) (fun _ e => e.elim) trivial (fun _ _ _ h _ => h) ?_ ?_
      · refine ⟨?_, ?_, ?_, ?_, ?_, ?_, ?_, ?_, trivial⟩
        · intro a w' K hk hdep hfr hK
          have f5 := hfr 5 (by decide)
          exact plan_do (by rfl) (plan_yield (i := 0) (V := fun _ _ v => v = (.pointer (some ⟨D, 0, none⟩) : Value)) (.pointer (some ⟨D, 0, none⟩)) (by go_simp) rfl hK)
        · intro a w' K hk hdep hfr hK
          have f8 := hfr 8 (by decide)
          exact plan_do (by rfl) (plan_yield (i := 1) (V := fun _ _ v => v = (.pointer (some ⟨wr.heap.size, 1, none⟩) : Value)) (.pointer (some ⟨wr.heap.size, 1, none⟩)) (by go_simp) rfl hK)
        · intro a w' K hk hdep hfr hK
          have e37 : a.tmps[37]?.getD undef = (.pointer (some ⟨wr.heap.size, 1, none⟩)) := hdep 1 (by decide) 37 rfl
          have cl := (cell_of_five (HOB.out.keep hk (fun e => e))).2.1
          exact plan_do (by rfl) (plan_yield (i := 2) (V := fun _ _ v => v = (.int .i64 x.at' : Value)) (.int .i64 x.at') (by go_simp) rfl hK)
        · intro a w' K hk hdep hfr hK
          have e38 : a.tmps[38]?.getD undef = (.int .i64 x.at') := hdep 2 (by decide) 38 rfl
          have em := EM.out
          exact plan_do (by rfl) (plan_yield (i := 3) (V := fun _ _ v => v = (.int .i64 (p : Nat) : Value)) (.int .i64 (p : Nat)) (by go_simp) rfl hK)
        · intro a w' K hk hdep hfr hK
          have f8 := hfr 8 (by decide)
          exact plan_do (by rfl) (plan_yield (i := 4) (V := fun _ _ v => v = (.pointer (some ⟨wr.heap.size, 2, none⟩) : Value)) (.pointer (some ⟨wr.heap.size, 2, none⟩)) (by go_simp) rfl hK)
        · intro a w' K hk hdep hfr hK
          have e40 : a.tmps[40]?.getD undef = (.pointer (some ⟨wr.heap.size, 2, none⟩)) := hdep 4 (by decide) 40 rfl
          have cl := (cell_of_five (HOB.out.keep hk (fun e => e))).2.2.1
          exact plan_do (by rfl) (plan_yield (i := 5) (V := fun _ _ v => v = (.slice x.da x.ds.length x.dc : Value)) (.slice x.da x.ds.length x.dc) (by go_simp) rfl hK)
        · intro a w' K hk hdep hfr hK
          have e41 : a.tmps[41]?.getD undef = (.slice x.da x.ds.length x.dc) := hdep 5 (by decide) 41 rfl
          exact plan_do (by rfl) (plan_yield (i := 6) (V := fun _ _ v => v = (opv 0 0 (.slice x.da x.ds.length x.dc) false (.slice none 0 0) : Value)) (opv 0 0 (.slice x.da x.ds.length x.dc) false (.slice none 0 0)) (by go_simp) rfl hK)
        · intro a w' K hk hdep hfr hK
          have e42 : a.tmps[42]?.getD undef = (opv 0 0 (.slice x.da x.ds.length x.dc) false (.slice none 0 0)) := hdep 6 (by decide) 42 rfl
          refine plan_do (by rfl) (plan_call 13 #[opv 0 0 (.slice x.da x.ds.length x.dc) false (.slice none 0 0)] (by go_simp) ?_)
          exact (dk_bytes 0 0 x.da none x.ds.length x.dc 0 0 x.ds BX w' rfl (HIN.out.1.same hk) HBX.out).mono fun e w'' ⟨g, he, ho, hk2⟩ => ⟨_, he, hK _ _ hk2 ⟨g, 512, by rw [HBL.out], by rw [HBL.out]; exact own_base ho hk.size⟩⟩
      intro a wz hkz hdef hsz hv hfr _
      have e36 : a.tmps[36]?.getD undef = .pointer (some ⟨D, 0, none⟩) := hv 0 36 (by omega) rfl
      have e39 : a.tmps[39]?.getD undef = .int .i64 (p : Nat) := hv 3 39 (by omega) rfl
      obtain ⟨gz, cz, e43, hoz⟩ : ∃ g cap, a.tmps[43]?.getD undef = .slice (some ⟨g, 0, none⟩) BX.length cap ∧ wz.ownsRow w3.heap.size 5 1 (.slice (some ⟨g, 0, none⟩) BX.length cap) BX.length (u8s BX) := hv 7 43 (by omega) rfl
      rw [HBL.out] at e43 hoz
      have he := act_eq a _ [some 36, some 37, some 38, some 39, some 40, some 41, some 42, some 43, some 44] 109 rfl hsz hdef hfr (fun d => a.tmps[d]?.getD undef) (fun _ _ => rfl)
      obtain ⟨v37, h37⟩ : ∃ v, a.tmps[37]?.getD undef = v := ⟨_, rfl⟩
      obtain ⟨v38, h38⟩ : ∃ v, a.tmps[38]?.getD undef = v := ⟨_, rfl⟩
      obtain ⟨v40, h40⟩ : ∃ v, a.tmps[40]?.getD undef = v := ⟨_, rfl⟩
      obtain ⟨v41, h41⟩ : ∃ v, a.tmps[41]?.getD undef = v := ⟨_, rfl⟩
      obtain ⟨v42, h42⟩ : ∃ v, a.tmps[42]?.getD undef = v := ⟨_, rfl⟩
      obtain ⟨v44, h44⟩ : ∃ v, a.tmps[44]?.getD undef = v := ⟨_, rfl⟩
      simp only [putAll, h37, h38, h40, h41, h42, h44, e36, e39, e43, List.setIfInBounds_toArray, List.set_cons_zero, List.set_cons_succ] at he
      clear h37 h38 h40 h41 h42 h44 e36 e39 e43 hdef hsz hv hfr
      subst he
      have HI4 := Lib.hid (HI3.out.same hkz)
      have HOZ := Lib.hid hoz
      have HFZ : Hid (¬ F gz) := Lib.hid (fun e => by have := HI3.out.1.lt _ e; have := (hoz.lt gz rfl).1; omega)
      clear hkz hoz
      go_wp2_with fail
      (refine (st_write w wz D F L O [] p gz cz BX HI4.out HP.out (own_base HOZ.out (Nat.zero_le _)) HBL.out HFZ.out (by have := HOL.out; omega)).mono ?_); rintro e w5 ⟨F5, rfl, hi5, _, _⟩
      have HI5 := Lib.hid hi5
      have HO5 : Hid ((O ++ [(p, BX)]).length = j + 1) := Lib.hid (by rw [List.length_append, HOL.out]; rfl)
      clear hi5
      go_wp2
      go_roundw
      case rel => exact ⟨j + 1, _, F5, by omega, by go_num, HI5.out, HO5.out⟩
      case measure => simp [intOf]; omega
    · have hlt2 : ¬ (j : Int) < (n : Int) := by omega
      have HOB : Hid (O.length ≤ 100000) := Lib.hid (by have := HOL.out; omega)
      go_wp2_with fail
      (refine (dk_crash wr F D (st L O) fo nf fc fs HI2.out.1 (by have := HL.out; simp [st]; omega) HOB.out HNF.out (HF.out.same HI2.out.2.1)).mono ?_); rintro e wx ⟨X, FX, rfl, hx, hkx, hfx⟩
      have HI3 := Lib.hid (HI2.out.same hkx)
      have HX := Lib.hid hx
      have HXL := Lib.hid hx.lt
      have HFX : Hid ((∀ k, FX k → ¬ F k) ∧ ∀ k, FX k → w.heap.size ≤ k) := Lib.hid ⟨fun k e e2 => by have := hfx k e; have := HI2.out.1.lt k e2; omega, fun k e => by have := hfx k e; have := HI2.out.2.1.size; omega⟩
      clear hx hkx hfx HI2
      go_wp2_with fail
      (refine (dk_crash wx F D (st L O) fo nf fc fs HI3.out.1 (by have := HL.out; simp [st]; omega) HOB.out HNF.out (HF.out.same HI3.out.2.1)).mono ?_); rintro e wy ⟨Y, FY, rfl, hy, hky, hfy⟩
      rw [st_crashed] at hy
      obtain ⟨LC, hLC⟩ : ∃ LC, (O.zip fs).foldl fated L = LC := ⟨_, rfl⟩
      have HLC : Hid (LC.length = 4) := Lib.hid (by rw [← hLC, folded_len]; exact HL.out)
      have HX4 : Hid (SpI w wy X FX (st LC []) []) := Lib.hid ⟨by have h := HX.out.same hky; rw [st_crashed, hLC] at h; exact h, HI3.out.2.1.trans hky (fun _ _ e => e), HFX.out.2, by simp⟩
      rw [hLC] at hy
      have HY4 := Lib.hid hy
      have HD4 := Lib.hid (HI3.out.1.same hky)
      have HDJ : Hid (∀ k, FX k → ¬ FY k ∧ ¬ F k) := Lib.hid (fun k e => ⟨fun e2 => by have := hfy k e2; have := HXL.out k e; omega, HFX.out.1 k e⟩)
      clear hy hky hfy HI3 HX HFX HXL hLC
      go_wp2
      go_loopw [11] (fun i wr => ∃ (k : Nat) (LX : List (List UInt8)) (GX : Nat → Prop), k ≤ 4 ∧ i = .int .i64 k ∧ SpI w wr X GX (st LX []) [] ∧ LX.length = 4 ∧ Dk FY wr Y (st LC []) ∧ Dk F wr D (st L O) ∧ ∀ k, GX k → ¬ FY k ∧ ¬ F k) (fun i _ => 4 - (intOf i).toNat)
      case atStart => exact ⟨0, LC, FX, by omega, rfl, HX4.out, HLC.out, HY4.out, HD4.out, HDJ.out⟩
      case round =>
        obtain ⟨k, LX, GX, hk4, rfl, hx, hlx, hy, hd, hdj⟩ := hrel
        have HX := Lib.hid hx
        have HLX := Lib.hid hlx
        have HY := Lib.hid hy
        have HD := Lib.hid hd
        have HJ := Lib.hid hdj
        clear hx hlx hy hd hdj HX4 HY4 HD4 HDJ
        by_cases hlt4 : k < 4
        · have hlt5 : (k : Int) < 4 := by omega
          have HKC : Hid (k < LC.length) := Lib.hid (by rw [HLC.out]; exact hlt4)
          have HKL : Hid (k < L.length) := Lib.hid (by rw [HL.out]; exact hlt4)
          have HKX : Hid (k < LX.length) := Lib.hid (by rw [HLX.out]; exact hlt4)
          have e77 : IntKind.u8.wrap ((k : Int) + 77) = (k : Int) + 77 := by unfold IntKind.wrap; simp [IntKind.bits, IntKind.signed]; omega
          obtain ⟨bx, hbx⟩ : ∃ bx : UInt8, (k : Int) + 77 = (bx.toNat : Int) := ⟨UInt8.ofNat (k + 77), by simp [UInt8.toNat_ofNat']; omega⟩
          have HBX := Lib.hid hbx
          obtain ⟨BX, hB⟩ : ∃ BX, filled [bx] = BX := ⟨_, rfl⟩
          have HBL : Hid (BX.length = 512) := Lib.hid (by rw [← hB]; exact filled_length _)
          have HFB := Lib.hid hB
          have HYS : Hid ((seenAt LC [] k).length = 512) := Lib.hid (HY.out.seen_len HKC.out)
          have HDS : Hid ((seenAt L O k).length = 512) := Lib.hid (HD.out.seen_len HKL.out)
          obtain ⟨SY, hSY⟩ : ∃ SY, seenAt LC [] k = SY := ⟨_, rfl⟩
          obtain ⟨SD, hSD⟩ : ∃ SD, seenAt L O k = SD := ⟨_, rfl⟩
          rw [hSY] at HYS
          rw [hSD] at HDS
          have HSY := Lib.hid hSY
          have HSD := Lib.hid hSD
          clear hbx hB hSY hSD
          go_wp2_with fail
          (refine (st_read _ Y FY LC [] k HY.out HKC.out (by decide)).mono ?_); rintro e wa ⟨va, rfl, ho, hk⟩
          rw [HSY.out] at ho
          have HX1 := Lib.hid (HX.out.row hk ho)
          have HY1 := Lib.hid (HY.out.same hk)
          have HD1 := Lib.hid (HD.out.same hk)
          clear ho hk HX HY HD
          go_wp2_with fail
          (refine (st_read wa D F L O k HD1.out HKL.out HOB.out).mono ?_); rintro e wb ⟨vb, rfl, ho, hk⟩
          rw [HSD.out] at ho
          have HX2 := Lib.hid (HX1.out.row hk ho)
          have HY2 := Lib.hid (HY1.out.same hk)
          have HD2 := Lib.hid (HD1.out.same hk)
          clear ho hk HX1 HY1 HD1
          go_wp2_with fail
          (refine (dk_bytes 0 0 _ none 1 1 0 0 [bx] BX _ rfl (bytes_lit wb _ ((k : Int) + 77) bx 1 HBX.out) HFB.out).mono ?_); rintro e wc ⟨gx, rfl, ho, hk⟩
          have hk' := ((Keeps.refl (fun _ => False) wb).alloc (.cells #[.int .u8 ((k : Int) + 77)] 5)).trans hk (fun _ _ e => e)
          have HX3 := Lib.hid ((HX2.out.same ((Keeps.refl _ _).alloc _)).row hk ho)
          have HY3 := Lib.hid (HY2.out.same hk')
          have HD3 := Lib.hid (HD2.out.same hk')
          clear ho hk hk' HX2 HY2 HD2
          go_wp2_with fail
          (refine (st_write w wc X GX LX [] _ k gx 512 BX HX3.out HKX.out (HX3.out.2.2.2 _ (List.mem_cons_self ..)).2 HBL.out ((HX3.out.2.2.2 _ (List.mem_cons_self ..)).1 gx rfl) (by decide)).mono ?_); rintro e wd ⟨G4, rfl, hx, hk, hg⟩
          have HX4 := Lib.hid hx
          have HJ4 : Hid (∀ k, G4 k → ¬ FY k ∧ ¬ F k) := Lib.hid (fun k e => ⟨grow_apart hg HY3.out.lt (fun k e => (HJ.out k e).1) k e, grow_apart hg HD3.out.lt (fun k e => (HJ.out k e).2) k e⟩)
          have HY4 := Lib.hid (HY3.out.keep hk (fun k e e2 => (HJ.out k e2).1 e))
          have HD4 := Lib.hid (HD3.out.keep hk (fun k e e2 => (HJ.out k e2).2 e))
          clear hx hk hg HX3 HY3 HD3 HJ
          go_wp2_with fail
          (refine (st_flush w wd X G4 LX _ _ HX4.out (by simp)).mono ?_); rintro e we ⟨G5, rfl, hx, hk, hg⟩
          have HX5 := Lib.hid hx
          have HJ5 : Hid (∀ k, G5 k → ¬ FY k ∧ ¬ F k) := Lib.hid (fun k e => ⟨grow_apart hg HY4.out.lt (fun k e => (HJ4.out k e).1) k e, grow_apart hg HD4.out.lt (fun k e => (HJ4.out k e).2) k e⟩)
          have HY5 := Lib.hid (HY4.out.keep hk (fun k e e2 => (HJ4.out k e2).1 e))
          have HD5 := Lib.hid (HD4.out.keep hk (fun k e e2 => (HJ4.out k e2).2 e))
          have HLX5 : Hid ((applied LX ([] ++ [(k, BX)])).length = 4) := Lib.hid (by rw [applied_len]; exact HLX.out)
          clear hx hk hg HX4 HY4 HD4 HJ4
          go_wp2_with fail
          (refine (st_read we Y FY LC [] k HY5.out HKC.out (by decide)).mono ?_); rintro e wf ⟨vc, rfl, ho, hk⟩
          rw [HSY.out] at ho
          have HX6 := Lib.hid (HX5.out.row hk ho)
          have HY6 := Lib.hid (HY5.out.same hk)
          have HD6 := Lib.hid (HD5.out.same hk)
          clear ho hk HX5 HY5 HD5
          go_wp2_with fail
          (refine (st_read wf D F L O k HD6.out HKL.out HOB.out).mono ?_); rintro e wg ⟨vd, rfl, ho, hk⟩
          rw [HSD.out] at ho
          have HX7 := Lib.hid (HX6.out.row hk ho)
          have HY7 := Lib.hid (HY6.out.same hk)
          have HD7 := Lib.hid (HD6.out.same hk)
          clear ho hk HX6 HY6 HD6
          have ka := run_reads (HX7.out.reads (v := va) (A := SY) (by simp) HYS.out)
          have kb := run_reads (HX7.out.reads (v := vb) (A := SD) (by simp) HDS.out)
          have kc := run_reads (HX7.out.reads (v := vc) (A := SY) (by simp) HYS.out)
          have kd := run_reads (HX7.out.reads (v := vd) (A := SD) (by simp) HDS.out)
          have HXE : Hid (SpI w wg X G5 (st (applied LX ([] ++ [(k, BX)])) []) []) := Lib.hid ⟨HX7.out.1, HX7.out.2.1, HX7.out.2.2.1, by simp⟩
          clear HX7
          go_wp2
          go_roundw
          case rel => exact ⟨k + 1, _, G5, by omega, by go_num, HXE.out, HLX5.out, HY7.out, HD7.out, HJ5.out⟩
          case measure => simp [intOf]; omega
        · have hlt5 : ¬ (k : Int) < 4 := by omega
          go_wp2
          go_ret
          exact ⟨rfl, HX.out.2.1⟩
end Go.Proofs.Ytoimhniijeafaaa
