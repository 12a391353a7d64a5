/- The walk of DiskDown. -/
import Derived.Test.YtoimhniijeafaaaDk18
namespace Go.Proofs.Ytoimhniijeafaaa
open Go.RowKit
set_option linter.unusedVariables false

set_option maxRecDepth 100000 in
set_option maxHeartbeats 25600000 in
theorem down_ok (w : World) (ao : Option Addr) (N cap : Nat) (calls : Int) (ops : List LOp) (hn : N = ops.length) (h : Ops w ao ops) :
    Calls Try.prog 6 #[.slice ao N cap, .int .i64 calls] w fun e w' => e = .returned (.bool true) ∧ Same w w' := by
  have HN := Lib.hid hn
  have HO := Lib.hid h
  clear hn h
  obtain ⟨n, hn0⟩ : ∃ n : Nat, calls % 16 = (n : Int) := ⟨(calls % 16).toNat, by omega⟩
  have en : bits BinOp.and IntKind.i64 calls 15 = (n : Int) := by rw [and_15, hn0]
  have hn16 : n < 16 := by omega
  clear hn0
  cases hq : greatOf ops with
  | true =>
    have HQ := Lib.hid hq
    clear hq
    go_enter Try.func6, Try.ntmps6
    go_wp2_with fail
    (refine (speaks_ok _).mono ?_); rintro e w0 ⟨rfl, hk0⟩
    have HK0 := Lib.hid hk0
    clear hk0
    go_wp2_with fail
    (refine (great_ok' true _ ao N cap ops HN.out (HO.out.same HK0.out) HQ.out).mono ?_); rintro e w1 ⟨rfl, hk⟩
    go_wp2
    go_ret
    exact ⟨rfl, HK0.out.trans hk (fun _ _ e => e)⟩
  | false =>
  have HQ := Lib.hid hq
  have HGR := Lib.hid (great_of ops hq)
  have hnb : N ≤ 1000 := by have := HN.out; have := HGR.out.1; omega
  clear hq
  go_enter Try.func6, Try.ntmps6
  go_wp2_with fail
  (refine (speaks_ok _).mono ?_); rintro e w0 ⟨rfl, hk0⟩
  have HK0 := Lib.hid hk0
  clear hk0
  go_wp2_with fail
  (refine (great_ok' false _ ao N cap ops HN.out (HO.out.same HK0.out) HQ.out).mono ?_); rintro e w1 ⟨rfl, hk⟩
  have HK1 : Hid (Same w w1) := Lib.hid (HK0.out.trans hk (fun _ _ e => e))
  clear HK0 hk
  go_wp2_with fail
  (refine (dk_new 4 _ (by decide) (by decide)).mono ?_); rintro e w2 ⟨D, F0, rfl, hd, hk, hf0⟩
  rw [show Int.toNat 4 = 4 from rfl, st_new] at hd
  obtain ⟨L, hL⟩ : ∃ L, List.replicate 4 noughts = L := ⟨_, rfl⟩
  rw [hL] at hd
  have HL : Hid (L.length = 4) := Lib.hid (by rw [← hL]; exact List.length_replicate)
  have HI := Lib.hid (SpI.of_new hd (HK1.out.trans hk (fun _ _ e => e)) (fun k e => by have := hf0 k e; have := HK1.out.size; omega))
  clear hd hk hf0 HK1 hL
  go_wp2_with fail
  (refine (dk_limit w2 F0 D _ (n : Int) HI.out.1 (by omega)).mono ?_); rintro e w3 ⟨⟨vl, rfl⟩, hd, hk⟩
  have HI2 := Lib.hid (HI.out.step hd hk (fun k e => .inl e))
  have HDN0 : Hid (DnI n 0 ((st L []).limit (n : Int))) := Lib.hid ⟨by simp [DSt.limit, st], HL.out, .inl ⟨Nat.zero_le _, rfl, by simp [DSt.limit]⟩⟩
  clear hd hk HI
  go_wp2
  go_loopw [8, 34] (fun dv i wr => ∃ (j dn : Nat) (s : DSt) (F : Nat → Prop), j ≤ N ∧ i = .int .i64 j ∧ dv = .int .i64 dn ∧ SpI w wr D F s [] ∧ DnI n dn s ∧ s.O.length ≤ j) (fun _ i _ => N - (intOf i).toNat)
  case atStart => exact ⟨0, 0, _, F0, by omega, rfl, rfl, HI2.out, HDN0.out, by simp [DSt.limit, st]⟩
  case round =>
    obtain ⟨j, dn, s, F, hj, rfl, rfl, hi, hdn, hjo2⟩ := hrel
    have HI2 := Lib.hid hi
    have HDN := Lib.hid hdn
    have HJO := Lib.hid hjo2
    have hdb : dn ≤ n + 1 := by rcases hdn.2.2 with ⟨h, _⟩ | ⟨h, _⟩ <;> omega
    have HOS : Hid (s.O.length ≤ 100000) := Lib.hid (by omega)
    clear hi hdn hjo2
    by_cases hlt : j < N
    · have hlt2 : (j : Int) < (N : Int) := by omega
      have hjo : j < ops.length := by have := HN.out; omega
      obtain ⟨go, off, rfl, hat⟩ := (HO.out.same HI2.out.2.1).at (by omega)
      have hat2 := hat j hjo
      have HLS := Lib.hid (sizeLOp ops[j])
      generalize ops[j] = x at *
      have HRA := Lib.hid hat2.1
      obtain ⟨BX, hBX⟩ : ∃ BX, filled x.ds = BX := ⟨_, rfl⟩
      have HBL : Hid (BX.length = 512) := Lib.hid (by rw [← hBX]; exact filled_length _)
      have HBX := Lib.hid hBX
      obtain ⟨p, hp⟩ : ∃ p : Nat, x.at' % 4 = (p : Int) := ⟨(x.at' % 4).toNat, by omega⟩
      have HP : Hid (p < 4) := Lib.hid (by omega)
      have EM : Hid (bits BinOp.and IntKind.i64 x.at' 3 = (p : Int)) := Lib.hid (by rw [and_3]; exact hp)
      obtain ⟨w3, hst, hb3, hk3, hs3⟩ := store_lop wr x
      obtain ⟨c0, c1, c2, c3, c4⟩ := cell_of_five hb3
      have HOB := Lib.hid (show Whole w3 wr.heap.size 34 x.cells from hb3)
      have HIN : Hid (x.In w3) := Lib.hid ⟨hat2.2.1.same hk3, hat2.2.2.same hk3⟩
      have HI3 := Lib.hid (HI2.out.same hk3)
      clear hb3 hk3 hat hat2 hBX hp hs3
      by_cases hlt3 : dn < n
      · have q1 : (dn : Int) < (n : Int) := by omega
        have q2 : (dn : Int) ≤ (n : Int) := by omega
        have q3 : ¬ (n : Int) < (dn : Int) + 1 := by omega
        by_cases hkd : x.kd % 4 = 0
        · have ek : bits BinOp.and IntKind.i64 x.kd 3 = 0 := by rw [and_3]; exact hkd
          go_wp2_with (refine wpList_load_mid (by rfl) 34 _ (by rfl) go (off + j * 5) (by rfl) x.cells _ HRA.out Try.underlying34 rfl HLS.out ?_)
          clear hst
          (refine (dk_flush w3 F D s HI3.out.1 HOS.out).mono ?_); rintro e w5 ⟨F5, he, hd5, hk5, hg5⟩
          obtain ⟨hc, hdn, hO5⟩ := dn_flush HDN.out
          rw [hc] at he
          rw [show dnCode n dn = 0 from by unfold dnCode; rw [if_pos (by omega)]] at he
          rw [show nextDn n dn = (dn + 1) from by unfold nextDn; rw [if_pos (by omega)]] at hdn
          subst he
          have HI5 := Lib.hid (HI3.out.step hd5 hk5 hg5)
          have HD5 := Lib.hid hdn
          have HJ5 : Hid (s.flushed.O.length ≤ j + 1) := Lib.hid (by have := HJO.out; omega)
          have HO5 : Hid (s.flushed.O.length ≤ 100000) := Lib.hid (by have := HJO.out; omega)
          clear hd5 hk5 hg5 hc hdn hO5 c0 c1 c2 c3 c4
          go_wp2_with fail
          (refine (dk_read w5 F5 D _ 0 HI5.out.1 HO5.out).mono ?_); rintro e w6 ⟨vr, he, _, hk⟩
          rw [dn_read HD5.out, if_neg (by omega)] at he
          subst he
          have HI6 := Lib.hid (HI5.out.same hk)
          clear hk
          go_wp2
          go_roundw
          case rel => exact ⟨j + 1, _, _, F5, by omega, by go_num, by go_num, HI6.out, HD5.out, HJ5.out⟩
          case measure => simp [intOf]; omega
        · have ek : (bits BinOp.and IntKind.i64 x.kd 3 == 0) = false := by rw [and_3]; simpa using hkd
          go_wp2_with (refine wpList_load_mid (by rfl) 34 _ (by rfl) go (off + j * 5) (by rfl) x.cells _ HRA.out Try.underlying34 rfl HLS.out ?_)
          clear hst c0 c1 c2 c3 c4
          refine wp_region_tail [[], [], [1], [2], [], [4], [5], [6], [0, 3, 7, 7], [8, 8, 0, 1, 2, 3, 4, 5, 6, 7, 8]]
            [some 44, some 45, some 46, some 47, some 48, some 49, some 50, some 51, some 52, some 11]
            [.is (.pointer (some ⟨D, 0, none⟩)), .is (.pointer (some ⟨wr.heap.size, 1, none⟩)), .is (.int .i64 x.at'), .is (.int .i64 (p : Nat)), .is (.pointer (some ⟨wr.heap.size, 2, none⟩)), .is (.slice x.da x.ds.length x.dc), .is (opv 0 0 (.slice x.da x.ds.length x.dc) false (.slice none 0 0)), .own 5 BX]
            (fun _ => False) [] (fun _ _ => True) 17 _ _ 105 8 10 (by kernel_rfl) (by rfl) (by rfl) (by omega) (by kernel_rfl) (by kernel_rfl) (by decide) (by decide) (fun _ e => e.elim) trivial (fun _ _ _ h _ => h) ?_ ?_
          · refine ⟨?_, ?_, ?_, ?_, ?_, ?_, ?_, ?_, trivial⟩
            · intro a w' K hk hdep hfr hK
              have f6 := hfr 6 (by decide)
              exact plan_do (by rfl) (plan_yield (i := 0) (V := fun _ _ v => v = (.pointer (some ⟨D, 0, none⟩) : Value)) (.pointer (some ⟨D, 0, none⟩)) (by go_simp) rfl hK)
            · intro a w' K hk hdep hfr hK
              have f10 := hfr 10 (by decide)
              exact plan_do (by rfl) (plan_yield (i := 1) (V := fun _ _ v => v = (.pointer (some ⟨wr.heap.size, 1, none⟩) : Value)) (.pointer (some ⟨wr.heap.size, 1, none⟩)) (by go_simp) rfl hK)
            · intro a w' K hk hdep hfr hK
              have e45 : a.tmps[45]?.getD undef = (.pointer (some ⟨wr.heap.size, 1, none⟩)) := hdep 1 (by decide) 45 rfl
              have cl := (cell_of_five (HOB.out.keep hk (fun e => e))).2.1
              exact plan_do (by rfl) (plan_yield (i := 2) (V := fun _ _ v => v = (.int .i64 x.at' : Value)) (.int .i64 x.at') (by go_simp) rfl hK)
            · intro a w' K hk hdep hfr hK
              have e46 : a.tmps[46]?.getD undef = (.int .i64 x.at') := hdep 2 (by decide) 46 rfl
              have em := EM.out
              exact plan_do (by rfl) (plan_yield (i := 3) (V := fun _ _ v => v = (.int .i64 (p : Nat) : Value)) (.int .i64 (p : Nat)) (by go_simp) rfl hK)
            · intro a w' K hk hdep hfr hK
              have f10 := hfr 10 (by decide)
              exact plan_do (by rfl) (plan_yield (i := 4) (V := fun _ _ v => v = (.pointer (some ⟨wr.heap.size, 2, none⟩) : Value)) (.pointer (some ⟨wr.heap.size, 2, none⟩)) (by go_simp) rfl hK)
            · intro a w' K hk hdep hfr hK
              have e48 : a.tmps[48]?.getD undef = (.pointer (some ⟨wr.heap.size, 2, none⟩)) := hdep 4 (by decide) 48 rfl
              have cl := (cell_of_five (HOB.out.keep hk (fun e => e))).2.2.1
              exact plan_do (by rfl) (plan_yield (i := 5) (V := fun _ _ v => v = (.slice x.da x.ds.length x.dc : Value)) (.slice x.da x.ds.length x.dc) (by go_simp) rfl hK)
            · intro a w' K hk hdep hfr hK
              have e49 : a.tmps[49]?.getD undef = (.slice x.da x.ds.length x.dc) := hdep 5 (by decide) 49 rfl
              exact plan_do (by rfl) (plan_yield (i := 6) (V := fun _ _ v => v = (opv 0 0 (.slice x.da x.ds.length x.dc) false (.slice none 0 0) : Value)) (opv 0 0 (.slice x.da x.ds.length x.dc) false (.slice none 0 0)) (by go_simp) rfl hK)
            · intro a w' K hk hdep hfr hK
              have e50 : a.tmps[50]?.getD undef = (opv 0 0 (.slice x.da x.ds.length x.dc) false (.slice none 0 0)) := hdep 6 (by decide) 50 rfl
              refine plan_do (by rfl) (plan_call 13 #[opv 0 0 (.slice x.da x.ds.length x.dc) false (.slice none 0 0)] (by go_simp) ?_)
              exact (dk_bytes 0 0 x.da none x.ds.length x.dc 0 0 x.ds BX w' rfl (HIN.out.1.same hk) HBX.out).mono fun e w'' ⟨g, he, ho, hk2⟩ => ⟨_, he, hK _ _ hk2 ⟨g, 512, by rw [HBL.out], by rw [HBL.out]; exact own_base ho hk.size⟩⟩
          intro a wz hkz hdef hsz hv hfr _
          have e44 : a.tmps[44]?.getD undef = .pointer (some ⟨D, 0, none⟩) := hv 0 44 (by omega) rfl
          have e47 : a.tmps[47]?.getD undef = .int .i64 (p : Nat) := hv 3 47 (by omega) rfl
          obtain ⟨gz, cz, e51, hoz⟩ : ∃ g cap, a.tmps[51]?.getD undef = .slice (some ⟨g, 0, none⟩) BX.length cap ∧ wz.ownsRow w3.heap.size 5 1 (.slice (some ⟨g, 0, none⟩) BX.length cap) BX.length (u8s BX) := hv 7 51 (by omega) rfl
          rw [HBL.out] at e51 hoz
          have he := act_eq a _ [some 44, some 45, some 46, some 47, some 48, some 49, some 50, some 51, some 52, some 11] 105 rfl hsz hdef hfr (fun d => a.tmps[d]?.getD undef) (fun _ _ => rfl)
          obtain ⟨v45, h45⟩ : ∃ v, a.tmps[45]?.getD undef = v := ⟨_, rfl⟩
          obtain ⟨v46, h46⟩ : ∃ v, a.tmps[46]?.getD undef = v := ⟨_, rfl⟩
          obtain ⟨v48, h48⟩ : ∃ v, a.tmps[48]?.getD undef = v := ⟨_, rfl⟩
          obtain ⟨v49, h49⟩ : ∃ v, a.tmps[49]?.getD undef = v := ⟨_, rfl⟩
          obtain ⟨v50, h50⟩ : ∃ v, a.tmps[50]?.getD undef = v := ⟨_, rfl⟩
          obtain ⟨v52, h52⟩ : ∃ v, a.tmps[52]?.getD undef = v := ⟨_, rfl⟩
          obtain ⟨v11, h11⟩ : ∃ v, a.tmps[11]?.getD undef = v := ⟨_, rfl⟩
          simp only [putAll, h45, h46, h48, h49, h50, h52, h11, e44, e47, e51, List.setIfInBounds_toArray, List.set_cons_zero, List.set_cons_succ] at he
          clear h45 h46 h48 h49 h50 h52 h11 e44 e47 e51 hdef hsz hv hfr
          subst he
          have HI4 := Lib.hid (HI3.out.same hkz)
          have HOZ := Lib.hid hoz
          have HFZ : Hid (¬ F gz) := Lib.hid (fun e => by have := HI3.out.1.lt _ e; have := (hoz.lt gz rfl).1; omega)
          clear hkz hoz
          go_wp2_with fail
          (refine (dk_write wz F D s (p : Int) gz cz BX HI4.out.1 (own_range HOZ.out) HBL.out HFZ.out HOS.out).mono ?_); rintro e w5 ⟨F5, he, hd5, hk5, hg5⟩
          obtain ⟨hc, hdn, hO5⟩ := dn_write HDN.out HP.out BX
          rw [hc] at he
          rw [show dnCode n dn = 0 from by unfold dnCode; rw [if_pos (by omega)]] at he
          rw [show nextDn n dn = (dn + 1) from by unfold nextDn; rw [if_pos (by omega)]] at hdn
          subst he
          have HI5 := Lib.hid (HI4.out.step hd5 hk5 hg5)
          have HD5 := Lib.hid hdn
          have HJ5 : Hid ((s.wrote (p : Int) BX).O.length ≤ j + 1) := Lib.hid (by have := HJO.out; omega)
          have HO5 : Hid ((s.wrote (p : Int) BX).O.length ≤ 100000) := Lib.hid (by have := HJO.out; omega)
          clear hd5 hk5 hg5 hc hdn hO5
          go_wp2_with fail
          (refine (dk_read w5 F5 D _ 0 HI5.out.1 HO5.out).mono ?_); rintro e w6 ⟨vr, he, _, hk⟩
          rw [dn_read HD5.out, if_neg (by omega)] at he
          subst he
          have HI6 := Lib.hid (HI5.out.same hk)
          clear hk
          go_wp2
          go_roundw
          case rel => exact ⟨j + 1, _, _, F5, by omega, by go_num, by go_num, HI6.out, HD5.out, HJ5.out⟩
          case measure => simp [intOf]; omega
      by_cases heq : dn = n
      · obtain rfl : dn = n := by omega
        have q3 : (dn : Int) < (dn : Int) + 1 := by omega
        by_cases hkd : x.kd % 4 = 0
        · have ek : bits BinOp.and IntKind.i64 x.kd 3 = 0 := by rw [and_3]; exact hkd
          go_wp2_with (refine wpList_load_mid (by rfl) 34 _ (by rfl) go (off + j * 5) (by rfl) x.cells _ HRA.out Try.underlying34 rfl HLS.out ?_)
          clear hst
          (refine (dk_flush w3 F D s HI3.out.1 HOS.out).mono ?_); rintro e w5 ⟨F5, he, hd5, hk5, hg5⟩
          obtain ⟨hc, hdn, hO5⟩ := dn_flush HDN.out
          rw [hc] at he
          rw [show dnCode dn dn = 3 from by unfold dnCode; rw [if_neg (by omega)]] at he
          rw [show nextDn dn dn = (dn + 1) from by unfold nextDn; rw [if_pos (by omega)]] at hdn
          subst he
          have HI5 := Lib.hid (HI3.out.step hd5 hk5 hg5)
          have HD5 := Lib.hid hdn
          have HJ5 : Hid (s.flushed.O.length ≤ j + 1) := Lib.hid (by have := HJO.out; omega)
          have HO5 : Hid (s.flushed.O.length ≤ 100000) := Lib.hid (by have := HJO.out; omega)
          clear hd5 hk5 hg5 hc hdn hO5 c0 c1 c2 c3 c4
          go_wp2_with fail
          (refine (dk_read w5 F5 D _ 0 HI5.out.1 HO5.out).mono ?_); rintro e w6 ⟨vr, he, _, hk⟩
          rw [dn_read HD5.out, if_pos (by omega)] at he
          subst he
          have HI6 := Lib.hid (HI5.out.same hk)
          clear hk
          go_wp2
          go_roundw
          case rel => exact ⟨j + 1, _, _, F5, by omega, by go_num, by go_num, HI6.out, HD5.out, HJ5.out⟩
          case measure => simp [intOf]; omega
        · have ek : (bits BinOp.and IntKind.i64 x.kd 3 == 0) = false := by rw [and_3]; simpa using hkd
          go_wp2_with (refine wpList_load_mid (by rfl) 34 _ (by rfl) go (off + j * 5) (by rfl) x.cells _ HRA.out Try.underlying34 rfl HLS.out ?_)
          clear hst c0 c1 c2 c3 c4
          refine wp_region_tail [[], [], [1], [2], [], [4], [5], [6], [0, 3, 7, 7], [8, 8, 0, 1, 2, 3, 4, 5, 6, 7, 8]]
            [some 44, some 45, some 46, some 47, some 48, some 49, some 50, some 51, some 52, some 11]
            [.is (.pointer (some ⟨D, 0, none⟩)), .is (.pointer (some ⟨wr.heap.size, 1, none⟩)), .is (.int .i64 x.at'), .is (.int .i64 (p : Nat)), .is (.pointer (some ⟨wr.heap.size, 2, none⟩)), .is (.slice x.da x.ds.length x.dc), .is (opv 0 0 (.slice x.da x.ds.length x.dc) false (.slice none 0 0)), .own 5 BX]
            (fun _ => False) [] (fun _ _ => True) 17 _ _ 105 8 10 (by kernel_rfl) (by rfl) (by rfl) (by omega) (by kernel_rfl) (by kernel_rfl) (by decide) (by decide) (fun _ e => e.elim) trivial (fun _ _ _ h _ => h) ?_ ?_
          · refine ⟨?_, ?_, ?_, ?_, ?_, ?_, ?_, ?_, trivial⟩
            · intro a w' K hk hdep hfr hK
              have f6 := hfr 6 (by decide)
              exact plan_do (by rfl) (plan_yield (i := 0) (V := fun _ _ v => v = (.pointer (some ⟨D, 0, none⟩) : Value)) (.pointer (some ⟨D, 0, none⟩)) (by go_simp) rfl hK)
            · intro a w' K hk hdep hfr hK
              have f10 := hfr 10 (by decide)
              exact plan_do (by rfl) (plan_yield (i := 1) (V := fun _ _ v => v = (.pointer (some ⟨wr.heap.size, 1, none⟩) : Value)) (.pointer (some ⟨wr.heap.size, 1, none⟩)) (by go_simp) rfl hK)
            · intro a w' K hk hdep hfr hK
              have e45 : a.tmps[45]?.getD undef = (.pointer (some ⟨wr.heap.size, 1, none⟩)) := hdep 1 (by decide) 45 rfl
              have cl := (cell_of_five (HOB.out.keep hk (fun e => e))).2.1
              exact plan_do (by rfl) (plan_yield (i := 2) (V := fun _ _ v => v = (.int .i64 x.at' : Value)) (.int .i64 x.at') (by go_simp) rfl hK)
            · intro a w' K hk hdep hfr hK
              have e46 : a.tmps[46]?.getD undef = (.int .i64 x.at') := hdep 2 (by decide) 46 rfl
              have em := EM.out
              exact plan_do (by rfl) (plan_yield (i := 3) (V := fun _ _ v => v = (.int .i64 (p : Nat) : Value)) (.int .i64 (p : Nat)) (by go_simp) rfl hK)
            · intro a w' K hk hdep hfr hK
              have f10 := hfr 10 (by decide)
              exact plan_do (by rfl) (plan_yield (i := 4) (V := fun _ _ v => v = (.pointer (some ⟨wr.heap.size, 2, none⟩) : Value)) (.pointer (some ⟨wr.heap.size, 2, none⟩)) (by go_simp) rfl hK)
            · intro a w' K hk hdep hfr hK
              have e48 : a.tmps[48]?.getD undef = (.pointer (some ⟨wr.heap.size, 2, none⟩)) := hdep 4 (by decide) 48 rfl
              have cl := (cell_of_five (HOB.out.keep hk (fun e => e))).2.2.1
              exact plan_do (by rfl) (plan_yield (i := 5) (V := fun _ _ v => v = (.slice x.da x.ds.length x.dc : Value)) (.slice x.da x.ds.length x.dc) (by go_simp) rfl hK)
            · intro a w' K hk hdep hfr hK
              have e49 : a.tmps[49]?.getD undef = (.slice x.da x.ds.length x.dc) := hdep 5 (by decide) 49 rfl
              exact plan_do (by rfl) (plan_yield (i := 6) (V := fun _ _ v => v = (opv 0 0 (.slice x.da x.ds.length x.dc) false (.slice none 0 0) : Value)) (opv 0 0 (.slice x.da x.ds.length x.dc) false (.slice none 0 0)) (by go_simp) rfl hK)
            · intro a w' K hk hdep hfr hK
              have e50 : a.tmps[50]?.getD undef = (opv 0 0 (.slice x.da x.ds.length x.dc) false (.slice none 0 0)) := hdep 6 (by decide) 50 rfl
              refine plan_do (by rfl) (plan_call 13 #[opv 0 0 (.slice x.da x.ds.length x.dc) false (.slice none 0 0)] (by go_simp) ?_)
              exact (dk_bytes 0 0 x.da none x.ds.length x.dc 0 0 x.ds BX w' rfl (HIN.out.1.same hk) HBX.out).mono fun e w'' ⟨g, he, ho, hk2⟩ => ⟨_, he, hK _ _ hk2 ⟨g, 512, by rw [HBL.out], by rw [HBL.out]; exact own_base ho hk.size⟩⟩
          intro a wz hkz hdef hsz hv hfr _
          have e44 : a.tmps[44]?.getD undef = .pointer (some ⟨D, 0, none⟩) := hv 0 44 (by omega) rfl
          have e47 : a.tmps[47]?.getD undef = .int .i64 (p : Nat) := hv 3 47 (by omega) rfl
          obtain ⟨gz, cz, e51, hoz⟩ : ∃ g cap, a.tmps[51]?.getD undef = .slice (some ⟨g, 0, none⟩) BX.length cap ∧ wz.ownsRow w3.heap.size 5 1 (.slice (some ⟨g, 0, none⟩) BX.length cap) BX.length (u8s BX) := hv 7 51 (by omega) rfl
          rw [HBL.out] at e51 hoz
          have he := act_eq a _ [some 44, some 45, some 46, some 47, some 48, some 49, some 50, some 51, some 52, some 11] 105 rfl hsz hdef hfr (fun d => a.tmps[d]?.getD undef) (fun _ _ => rfl)
          obtain ⟨v45, h45⟩ : ∃ v, a.tmps[45]?.getD undef = v := ⟨_, rfl⟩
          obtain ⟨v46, h46⟩ : ∃ v, a.tmps[46]?.getD undef = v := ⟨_, rfl⟩
          obtain ⟨v48, h48⟩ : ∃ v, a.tmps[48]?.getD undef = v := ⟨_, rfl⟩
          obtain ⟨v49, h49⟩ : ∃ v, a.tmps[49]?.getD undef = v := ⟨_, rfl⟩
          obtain ⟨v50, h50⟩ : ∃ v, a.tmps[50]?.getD undef = v := ⟨_, rfl⟩
          obtain ⟨v52, h52⟩ : ∃ v, a.tmps[52]?.getD undef = v := ⟨_, rfl⟩
          obtain ⟨v11, h11⟩ : ∃ v, a.tmps[11]?.getD undef = v := ⟨_, rfl⟩
          simp only [putAll, h45, h46, h48, h49, h50, h52, h11, e44, e47, e51, List.setIfInBounds_toArray, List.set_cons_zero, List.set_cons_succ] at he
          clear h45 h46 h48 h49 h50 h52 h11 e44 e47 e51 hdef hsz hv hfr
          subst he
          have HI4 := Lib.hid (HI3.out.same hkz)
          have HOZ := Lib.hid hoz
          have HFZ : Hid (¬ F gz) := Lib.hid (fun e => by have := HI3.out.1.lt _ e; have := (hoz.lt gz rfl).1; omega)
          clear hkz hoz
          go_wp2_with fail
          (refine (dk_write wz F D s (p : Int) gz cz BX HI4.out.1 (own_range HOZ.out) HBL.out HFZ.out HOS.out).mono ?_); rintro e w5 ⟨F5, he, hd5, hk5, hg5⟩
          obtain ⟨hc, hdn, hO5⟩ := dn_write HDN.out HP.out BX
          rw [hc] at he
          rw [show dnCode dn dn = 3 from by unfold dnCode; rw [if_neg (by omega)]] at he
          rw [show nextDn dn dn = (dn + 1) from by unfold nextDn; rw [if_pos (by omega)]] at hdn
          subst he
          have HI5 := Lib.hid (HI4.out.step hd5 hk5 hg5)
          have HD5 := Lib.hid hdn
          have HJ5 : Hid ((s.wrote (p : Int) BX).O.length ≤ j + 1) := Lib.hid (by have := HJO.out; omega)
          have HO5 : Hid ((s.wrote (p : Int) BX).O.length ≤ 100000) := Lib.hid (by have := HJO.out; omega)
          clear hd5 hk5 hg5 hc hdn hO5
          go_wp2_with fail
          (refine (dk_read w5 F5 D _ 0 HI5.out.1 HO5.out).mono ?_); rintro e w6 ⟨vr, he, _, hk⟩
          rw [dn_read HD5.out, if_pos (by omega)] at he
          subst he
          have HI6 := Lib.hid (HI5.out.same hk)
          clear hk
          go_wp2
          go_roundw
          case rel => exact ⟨j + 1, _, _, F5, by omega, by go_num, by go_num, HI6.out, HD5.out, HJ5.out⟩
          case measure => simp [intOf]; omega
      · obtain rfl : dn = n + 1 := by omega
        have q1 : ¬ ((n + 1 : Nat) : Int) < (n : Int) := by omega
        have q2 : ¬ ((n + 1 : Nat) : Int) ≤ (n : Int) := by omega
        have q3 : (n : Int) < ((n + 1 : Nat) : Int) := by omega
        by_cases hkd : x.kd % 4 = 0
        · have ek : bits BinOp.and IntKind.i64 x.kd 3 = 0 := by rw [and_3]; exact hkd
          go_wp2_with (refine wpList_load_mid (by rfl) 34 _ (by rfl) go (off + j * 5) (by rfl) x.cells _ HRA.out Try.underlying34 rfl HLS.out ?_)
          clear hst
          (refine (dk_flush w3 F D s HI3.out.1 HOS.out).mono ?_); rintro e w5 ⟨F5, he, hd5, hk5, hg5⟩
          obtain ⟨hc, hdn, hO5⟩ := dn_flush HDN.out
          rw [hc] at he
          rw [show dnCode n (n + 1) = 3 from by unfold dnCode; rw [if_neg (by omega)]] at he
          rw [show nextDn n (n + 1) = (n + 1) from by unfold nextDn; rw [if_neg (by omega)]] at hdn
          subst he
          have HI5 := Lib.hid (HI3.out.step hd5 hk5 hg5)
          have HD5 := Lib.hid hdn
          have HJ5 : Hid (s.flushed.O.length ≤ j + 1) := Lib.hid (by have := HJO.out; omega)
          have HO5 : Hid (s.flushed.O.length ≤ 100000) := Lib.hid (by have := HJO.out; omega)
          clear hd5 hk5 hg5 hc hdn hO5 c0 c1 c2 c3 c4
          go_wp2_with fail
          (refine (dk_read w5 F5 D _ 0 HI5.out.1 HO5.out).mono ?_); rintro e w6 ⟨vr, he, _, hk⟩
          rw [dn_read HD5.out, if_pos (by omega)] at he
          subst he
          have HI6 := Lib.hid (HI5.out.same hk)
          clear hk
          go_wp2
          go_roundw
          case rel => exact ⟨j + 1, _, _, F5, by omega, by go_num, by go_num, HI6.out, HD5.out, HJ5.out⟩
          case measure => simp [intOf]; omega
        · have ek : (bits BinOp.and IntKind.i64 x.kd 3 == 0) = false := by rw [and_3]; simpa using hkd
          go_wp2_with (refine wpList_load_mid (by rfl) 34 _ (by rfl) go (off + j * 5) (by rfl) x.cells _ HRA.out Try.underlying34 rfl HLS.out ?_)
          clear hst c0 c1 c2 c3 c4
          refine wp_region_tail [[], [], [1], [2], [], [4], [5], [6], [0, 3, 7, 7], [8, 8, 0, 1, 2, 3, 4, 5, 6, 7, 8]]
            [some 44, some 45, some 46, some 47, some 48, some 49, some 50, some 51, some 52, some 11]
            [.is (.pointer (some ⟨D, 0, none⟩)), .is (.pointer (some ⟨wr.heap.size, 1, none⟩)), .is (.int .i64 x.at'), .is (.int .i64 (p : Nat)), .is (.pointer (some ⟨wr.heap.size, 2, none⟩)), .is (.slice x.da x.ds.length x.dc), .is (opv 0 0 (.slice x.da x.ds.length x.dc) false (.slice none 0 0)), .own 5 BX]
            (fun _ => False) [] (fun _ _ => True) 17 _ _ 105 8 10 (by kernel_rfl) (by rfl) (by rfl) (by omega) (by kernel_rfl) (by kernel_rfl) (by decide) (by decide) (fun _ e => e.elim) trivial (fun _ _ _ h _ => h) ?_ ?_
          · refine ⟨?_, ?_, ?_, ?_, ?_, ?_, ?_, ?_, trivial⟩
            · intro a w' K hk hdep hfr hK
              have f6 := hfr 6 (by decide)
              exact plan_do (by rfl) (plan_yield (i := 0) (V := fun _ _ v => v = (.pointer (some ⟨D, 0, none⟩) : Value)) (.pointer (some ⟨D, 0, none⟩)) (by go_simp) rfl hK)
            · intro a w' K hk hdep hfr hK
              have f10 := hfr 10 (by decide)
              exact plan_do (by rfl) (plan_yield (i := 1) (V := fun _ _ v => v = (.pointer (some ⟨wr.heap.size, 1, none⟩) : Value)) (.pointer (some ⟨wr.heap.size, 1, none⟩)) (by go_simp) rfl hK)
            · intro a w' K hk hdep hfr hK
              have e45 : a.tmps[45]?.getD undef = (.pointer (some ⟨wr.heap.size, 1, none⟩)) := hdep 1 (by decide) 45 rfl
              have cl := (cell_of_five (HOB.out.keep hk (fun e => e))).2.1
              exact plan_do (by rfl) (plan_yield (i := 2) (V := fun _ _ v => v = (.int .i64 x.at' : Value)) (.int .i64 x.at') (by go_simp) rfl hK)
            · intro a w' K hk hdep hfr hK
              have e46 : a.tmps[46]?.getD undef = (.int .i64 x.at') := hdep 2 (by decide) 46 rfl
              have em := EM.out
              exact plan_do (by rfl) (plan_yield (i := 3) (V := fun _ _ v => v = (.int .i64 (p : Nat) : Value)) (.int .i64 (p : Nat)) (by go_simp) rfl hK)
            · intro a w' K hk hdep hfr hK
              have f10 := hfr 10 (by decide)
              exact plan_do (by rfl) (plan_yield (i := 4) (V := fun _ _ v => v = (.pointer (some ⟨wr.heap.size, 2, none⟩) : Value)) (.pointer (some ⟨wr.heap.size, 2, none⟩)) (by go_simp) rfl hK)
            · intro a w' K hk hdep hfr hK
              have e48 : a.tmps[48]?.getD undef = (.pointer (some ⟨wr.heap.size, 2, none⟩)) := hdep 4 (by decide) 48 rfl
              have cl := (cell_of_five (HOB.out.keep hk (fun e => e))).2.2.1
              exact plan_do (by rfl) (plan_yield (i := 5) (V := fun _ _ v => v = (.slice x.da x.ds.length x.dc : Value)) (.slice x.da x.ds.length x.dc) (by go_simp) rfl hK)
            · intro a w' K hk hdep hfr hK
              have e49 : a.tmps[49]?.getD undef = (.slice x.da x.ds.length x.dc) := hdep 5 (by decide) 49 rfl
              exact plan_do (by rfl) (plan_yield (i := 6) (V := fun _ _ v => v = (opv 0 0 (.slice x.da x.ds.length x.dc) false (.slice none 0 0) : Value)) (opv 0 0 (.slice x.da x.ds.length x.dc) false (.slice none 0 0)) (by go_simp) rfl hK)
            · intro a w' K hk hdep hfr hK
              have e50 : a.tmps[50]?.getD undef = (opv 0 0 (.slice x.da x.ds.length x.dc) false (.slice none 0 0)) := hdep 6 (by decide) 50 rfl
              refine plan_do (by rfl) (plan_call 13 #[opv 0 0 (.slice x.da x.ds.length x.dc) false (.slice none 0 0)] (by go_simp) ?_)
              exact (dk_bytes 0 0 x.da none x.ds.length x.dc 0 0 x.ds BX w' rfl (HIN.out.1.same hk) HBX.out).mono fun e w'' ⟨g, he, ho, hk2⟩ => ⟨_, he, hK _ _ hk2 ⟨g, 512, by rw [HBL.out], by rw [HBL.out]; exact own_base ho hk.size⟩⟩
          intro a wz hkz hdef hsz hv hfr _
          have e44 : a.tmps[44]?.getD undef = .pointer (some ⟨D, 0, none⟩) := hv 0 44 (by omega) rfl
          have e47 : a.tmps[47]?.getD undef = .int .i64 (p : Nat) := hv 3 47 (by omega) rfl
          obtain ⟨gz, cz, e51, hoz⟩ : ∃ g cap, a.tmps[51]?.getD undef = .slice (some ⟨g, 0, none⟩) BX.length cap ∧ wz.ownsRow w3.heap.size 5 1 (.slice (some ⟨g, 0, none⟩) BX.length cap) BX.length (u8s BX) := hv 7 51 (by omega) rfl
          rw [HBL.out] at e51 hoz
          have he := act_eq a _ [some 44, some 45, some 46, some 47, some 48, some 49, some 50, some 51, some 52, some 11] 105 rfl hsz hdef hfr (fun d => a.tmps[d]?.getD undef) (fun _ _ => rfl)
          obtain ⟨v45, h45⟩ : ∃ v, a.tmps[45]?.getD undef = v := ⟨_, rfl⟩
          obtain ⟨v46, h46⟩ : ∃ v, a.tmps[46]?.getD undef = v := ⟨_, rfl⟩
          obtain ⟨v48, h48⟩ : ∃ v, a.tmps[48]?.getD undef = v := ⟨_, rfl⟩
          obtain ⟨v49, h49⟩ : ∃ v, a.tmps[49]?.getD undef = v := ⟨_, rfl⟩
          obtain ⟨v50, h50⟩ : ∃ v, a.tmps[50]?.getD undef = v := ⟨_, rfl⟩
          obtain ⟨v52, h52⟩ : ∃ v, a.tmps[52]?.getD undef = v := ⟨_, rfl⟩
          obtain ⟨v11, h11⟩ : ∃ v, a.tmps[11]?.getD undef = v := ⟨_, rfl⟩
          simp only [putAll, h45, h46, h48, h49, h50, h52, h11, e44, e47, e51, List.setIfInBounds_toArray, List.set_cons_zero, List.set_cons_succ] at he
          clear h45 h46 h48 h49 h50 h52 h11 e44 e47 e51 hdef hsz hv hfr
          subst he
          have HI4 := Lib.hid (HI3.out.same hkz)
          have HOZ := Lib.hid hoz
          have HFZ : Hid (¬ F gz) := Lib.hid (fun e => by have := HI3.out.1.lt _ e; have := (hoz.lt gz rfl).1; omega)
          clear hkz hoz
          go_wp2_with fail
          (refine (dk_write wz F D s (p : Int) gz cz BX HI4.out.1 (own_range HOZ.out) HBL.out HFZ.out HOS.out).mono ?_); rintro e w5 ⟨F5, he, hd5, hk5, hg5⟩
          obtain ⟨hc, hdn, hO5⟩ := dn_write HDN.out HP.out BX
          rw [hc] at he
          rw [show dnCode n (n + 1) = 3 from by unfold dnCode; rw [if_neg (by omega)]] at he
          rw [show nextDn n (n + 1) = (n + 1) from by unfold nextDn; rw [if_neg (by omega)]] at hdn
          subst he
          have HI5 := Lib.hid (HI4.out.step hd5 hk5 hg5)
          have HD5 := Lib.hid hdn
          have HJ5 : Hid ((s.wrote (p : Int) BX).O.length ≤ j + 1) := Lib.hid (by have := HJO.out; omega)
          have HO5 : Hid ((s.wrote (p : Int) BX).O.length ≤ 100000) := Lib.hid (by have := HJO.out; omega)
          clear hd5 hk5 hg5 hc hdn hO5
          go_wp2_with fail
          (refine (dk_read w5 F5 D _ 0 HI5.out.1 HO5.out).mono ?_); rintro e w6 ⟨vr, he, _, hk⟩
          rw [dn_read HD5.out, if_pos (by omega)] at he
          subst he
          have HI6 := Lib.hid (HI5.out.same hk)
          clear hk
          go_wp2
          go_roundw
          case rel => exact ⟨j + 1, _, _, F5, by omega, by go_num, by go_num, HI6.out, HD5.out, HJ5.out⟩
          case measure => simp [intOf]; omega
    · have hlt2 : ¬ (j : Int) < (N : Int) := by omega
      go_wp2_with fail
      (refine (dk_crash wr F D s none 0 0 [] HI2.out.1 (by have := HDN.out.2.1; omega) HOS.out rfl (Ints.nil _ _ _)).mono ?_); rintro e wx ⟨X, FX, rfl, hx, hkx, hfx⟩
      have hse : s.crashed [] = st s.L [] := by simp [DSt.crashed, st]
      rw [hse] at hx
      have HL4 := Lib.hid HDN.out.2.1
      generalize s.L = LS at *
      have HX : Hid (SpI w wx X FX (st LS []) []) := Lib.hid ⟨hx, HI2.out.2.1.trans hkx (fun _ _ e => e), fun k e => by have := hfx k e; have := HI2.out.2.1.size; omega, by simp⟩
      clear hx hkx hfx HI2 hse
      go_wp2_with fail
      (refine (st_read wx X FX LS [] 0 HX.out.1 (by have := HL4.out; omega) (by decide)).mono ?_); rintro e wy ⟨vy, rfl, _, hk⟩
      have HX2 := Lib.hid (HX.out.same hk)
      clear hk HX
      go_wp2_with fail
      (refine (st_flush w wy X FX LS [] [] HX2.out (by decide)).mono ?_); rintro e wz ⟨FZ, rfl, hx, _, _⟩
      have HX3 := Lib.hid hx
      clear hx HX2
      go_wp2_with fail
      (refine (dk_sectors wz FZ X _ HX3.out.1).mono ?_); rintro e wv ⟨rfl, rfl⟩
      have e4 : ((st (applied LS []) []).L.length : Int) = 4 := by show ((applied LS []).length : Int) = 4; rw [applied_len, HL4.out]; rfl
      rw [e4]
      clear e4
      go_wp2
      go_ret
      exact ⟨rfl, HX3.out.2.1⟩
end Go.Proofs.Ytoimhniijeafaaa
