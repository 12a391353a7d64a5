/- The walk of PathTells. -/
import Derived.Test.YtjehihgcbbialaaDoorPth6
import Derived.Test.YtjehihgcbbialaaDoorPth19
namespace Go.Proofs.YtjehihgcbbialaaDoor
open Go.RowKit
set_option linter.unusedVariables false

set_option maxRecDepth 100000 in
set_option maxHeartbeats 12800000 in
theorem tells_any (s : ByteArray) (w : World) (he : Env w) : Calls Tryd.prog 3 #[.string s] w fun e w' => e = .returned (.bool true) ∧ Same w w' := by
  have HE0 := Lib.hid he
  have HSR := Lib.hid (fun w => refSplit_any s w)
  unfold RSplit at HSR
  have HNA := Lib.hid (fun w => name_any s w)
  have HNR := Lib.hid (fun w => refName_any s w)
  have HCH := Lib.hid (fun w he => check_any s w he)
  have HSP := Lib.hid (fun w he => pathSplit_any s w he)
  have HPA := Lib.hid (fun w he => parent_any s w he)
  have HPR := Lib.hid (fun w => refParent_any s w)
  have HBA := Lib.hid (fun w he => base_any s w he)
  have HBR := Lib.hid (fun w => refBase_any s w)
  have HAN := Lib.hid (fun w he => ancestors_any s w he)
  unfold UpsPost at HAN
  have HJ8 : Hid (∀ x ∈ nl (sb s), x.length ≤ 8) := Lib.hid (fun x hx => (nameB_len (nl_name (sb s) x hx)).2)
  have HL := Lib.hid (nl_len (sb s))
  generalize (namesOf (sb s)).isSome = p at HSR HCH
  generalize nameB (sb s) = nb at HNA HNR
  generalize bsA (parentB (sb s)) = pu at HPA HPR
  generalize bsA (baseB (sb s)) = pv at HBA HBR
  generalize nl (sb s) = l at HSR HSP HAN HJ8 HL
  obtain ⟨n, hn⟩ : ∃ n, l.length = n := ⟨_, rfl⟩
  have HUL : Hid ((upsOf l).length = n) := Lib.hid ((upsOf_len l).trans hn)
  rw [hn] at HSR HSP HL
  rw [HUL.out] at HAN
  have HN := Lib.hid hn
  have hn24 : n ≤ 24 := HL.out
  have hbb : (nb == nb) = true := by cases nb <;> rfl
  have hpu : (pu.toList == pu.toList) = true := by simp
  have hpv : (pv.toList == pv.toList) = true := by simp
  obtain ⟨ie, hie, hz0, hz1, hz2⟩ := info_partsV laysSplit.i9
  have HZ := Lib.hid hz0
  clear hn hz0 he
  go_enter Tryd.func3, Tryd.ntmps3
  go_wp2_with fail
  ((with_reducible refine (speaks9 _ HE0.out).mono ?_); rintro e w1 ⟨rfl, hk1⟩)
  have HK1 := Lib.hid hk1
  have HE1 := Lib.hid (HE0.out.same hk1)
  clear hk1
  by_cases h1 : (300 : Int) < (s.size : Int)
  · go_wp2
    go_ret
    exact ⟨rfl, HK1.out⟩
  have hd1 : decide ((300 : Int) < (s.size : Int)) = false := decide_eq_false h1
  clear h1
  go_wp2_with fail
  ((with_reducible refine (HSR.out _).mono ?_); rintro e w2 ⟨ao, c, rfl, hst, hcc, hk2⟩)
  have HK2 := Lib.hid (HK1.out.trans hk2 (fun _ _ e => e))
  have HST := Lib.hid hst
  have hc2 : (n : Int) ≤ (c : Int) := by omega
  clear hst hk2
  go_wp2
  go_loopw [5, 20] (fun tv i wr => ∃ j : Nat, j ≤ n ∧ i = .int .i64 j ∧ Hid (wr.ownsRow w2.heap.size 9 1 tv j ((((upsOf l).take j).map bsA).map Value.string)) ∧ Hid (Same w2 wr)) (fun _ i _ => n - (intOf i).toNat)
  case atStart => exact ⟨0, by omega, rfl, Lib.hid (own_lit w2 9 [] 0 rfl (by omega)), Lib.hid ((Keeps.refl _ _).alloc _)⟩
  case round =>
    obtain ⟨j, hj, rfl, HO, HS⟩ := hrel
    by_cases hlt : j < n
    · have hjl : j < l.length := by rw [HN.out]; exact hlt
      have HTK : Hid ((upsOf l).take (j + 1) = (upsOf l).take j ++ [joinP (l.take j)]) := Lib.hid (upsOf_take l j hjl)
      have HLN : Hid ((joinP (l.take j)).length ≤ 1000000) := Lib.hid (by
        have h1 := join_len (l.take j) (fun x hx => by
          have := HJ8.out x (List.mem_of_mem_take hx)
          exact this)
        rw [List.length_take] at h1
        rw [joinP, List.length_cons]; omega)
      have HJ := Lib.hid (refJoin_any ao j c (l.take j) wr (by rw [List.map_take]; exact (HST.out.same HS.out).take (by rw [List.length_map]; exact HN.out) j c (by omega)) (by rw [List.length_take]; omega) (by omega) HLN.out)
      obtain ⟨z, hz⟩ : ∃ z, bsA (joinP (l.take j)) = z := ⟨_, rfl⟩
      rw [hz] at HJ
      have HZZ := Lib.hid hz
      have hjn : (j : Int) < (n : Int) := by omega
      have hjc : (j : Int) ≤ (c : Int) := by omega
      clear hjl hz
      go_wp2_with fail
      ((with_reducible refine HJ.out.mono ?_); rintro e w3 ⟨rfl, hk2⟩)
      have HO2 := Lib.hid (own_keeps hk2 HO.out (fun _ _ e => e))
      have HS2 := Lib.hid (HS.out.trans hk2 (fun _ _ e => e))
      obtain ⟨wa, hwa⟩ : ∃ wa, w3.alloc (.cells #[.string z] 9) = wa := ⟨_, rfl⟩
      have HWA := Lib.hid hwa
      obtain ⟨g4, c4, w4, hrun, hown, hgr, hat, hlt4⟩ := run_append_lies (P := Tryd.prog) wa 23 23 w2.heap.size 9 ie _ 1 16 Tryd.underlying23 hie HZ.out hz1 hz2 rfl (by omega) _ j _ (by rw [← hwa]; exact own_keeps ((Keeps.refl (fun _ => False) w3).alloc _) HO2.out (fun _ _ e => e)) ⟨w3.heap.size, 0, none⟩ 1 1 [.string z] rfl
        (fun k u hk => by
          rw [← hwa, Addr.add_mid, Nat.zero_add, cell_of_row _ _ _ _ _ _ (heap_alloc_new w3 _)]
          simpa using hk) (by simp [Value.oneCell']) (by omega) (by unfold maxLen; omega) (by omega) (by rw [← hwa]; have := HS2.out.size; simp; omega) wa.heap.size rfl
      have hk4 : Same w2 w4 := by
        rw [← hwa] at hgr
        exact (HS2.out.alloc _).grown hgr (fun q e1 e2 => by have := (HO2.out.lt q e1).1; omega)
      have HRUN := Lib.hid hrun
      have HO4 : Hid (w4.ownsRow w2.heap.size 9 1 (.slice (some ⟨g4, 0, none⟩) (j + 1) c4) (j + 1) ((((upsOf l).take (j + 1)).map bsA).map Value.string)) := Lib.hid (by rw [HTK.out, List.map_append, List.map_append]; simp only [List.map_cons, List.map_nil, HZZ.out]; exact hown)
      have HK4 := Lib.hid hk4
      clear hk2 hwa hrun hown hgr hat hlt4 hk4
      go_wp2_with (first
        | (at_builtin; refine wpList_append_run (by rfl) (.tmp 23) (.tmp 28) 23 (by rfl) _ _ _ w4 (by rfl) (by rfl) (by rw [HWA.out]; exact HRUN.out) ?_))
      go_roundw
      case rel => exact ⟨j + 1, by omega, by go_num, HO4, HK4⟩
      case measure => simp [intOf]; omega
    · obtain rfl : j = n := by omega
      have hjn : ¬ (j : Int) < (j : Int) := by omega
      have HF : Hid (∃ bo d, u5 = .slice bo j d ∧ Strs wr (.slice bo j d) ((upsOf l).map bsA)) := Lib.hid (by
        have h1 := HO.out
        rw [List.take_of_length_le (by rw [HUL.out]; exact Nat.le_refl _)] at h1
        exact own_strs h1 (by rw [List.length_map, HUL.out]))
      have HLS3 := Lib.hid (HST.out.same HS.out)
      have HK3 := Lib.hid (HK2.out.trans HS.out (fun _ _ e => e))
      have HE3 := Lib.hid (HE0.out.same HK3.out)
      obtain ⟨bo, d, rfl, hup⟩ := HF.out
      have HUP3 := Lib.hid hup
      clear hup HF HO
      cases p with
      | true =>
        go_wp2_with fail
        ((with_reducible refine (HNA.out _).mono ?_); rintro e w4 ⟨rfl, hk4⟩)
        have HK4 := Lib.hid (HK3.out.trans hk4 (fun _ _ e => e))
        have HE4 := Lib.hid (HE3.out.same hk4)
        have HUP4 := Lib.hid (HUP3.out.same hk4)
        have HLS4 := Lib.hid (HLS3.out.same hk4)
        clear hk4
        go_wp2_with fail
        ((with_reducible refine (HNR.out _).mono ?_); rintro e w5 ⟨rfl, hk5⟩)
        have HK5 := Lib.hid (HK4.out.trans hk5 (fun _ _ e => e))
        have HE5 := Lib.hid (HE4.out.same hk5)
        have HUP5 := Lib.hid (HUP4.out.same hk5)
        have HLS5 := Lib.hid (HLS4.out.same hk5)
        clear hk5
        go_wp2_with fail
        ((with_reducible refine (HCH.out _ HE5.out).mono ?_); rintro e w6 ⟨rfl, hk6⟩)
        have HK6 := Lib.hid (HK5.out.trans hk6 (fun _ _ e => e))
        have HE6 := Lib.hid (HE5.out.same hk6)
        have HUP6 := Lib.hid (HUP5.out.same hk6)
        have HLS6 := Lib.hid (HLS5.out.same hk6)
        clear hk6
        go_wp2_with fail
        ((with_reducible refine (HSP.out _ HE6.out).mono ?_); rintro e w7 ⟨qo, rfl, hst, ha, hk7⟩)
        have HK7 := Lib.hid (HK6.out.trans hk7 (fun _ _ e => e))
        have HE7 := Lib.hid (HE6.out.same hk7)
        have HUP7 := Lib.hid (HUP6.out.same hk7)
        have HLS7 := Lib.hid (HLS6.out.same hk7)
        have HQ7 := Lib.hid hst
        clear hst ha hk7
        go_wp2_with fail
        ((with_reducible refine (same_any qo ao j j j c _ _ _ HQ7.out HLS7.out (by rw [List.length_map]; exact HN.out) (by rw [List.length_map]; exact HN.out) (by omega) (by omega)).mono ?_); rintro e w8 ⟨rfl, hk8⟩)
        have HK8 := Lib.hid (HK7.out.trans hk8 (fun _ _ e => e))
        have HE8 := Lib.hid (HE7.out.same hk8)
        have HUP8 := Lib.hid (HUP7.out.same hk8)
        have HLS8 := Lib.hid (HLS7.out.same hk8)
        rw [decide_eq_true rfl]
        clear hk8
        go_wp2_with fail
        ((with_reducible refine (HPA.out _ HE8.out).mono ?_); rintro e w9 ⟨rfl, hk9⟩)
        have HK9 := Lib.hid (HK8.out.trans hk9 (fun _ _ e => e))
        have HE9 := Lib.hid (HE8.out.same hk9)
        have HUP9 := Lib.hid (HUP8.out.same hk9)
        have HLS9 := Lib.hid (HLS8.out.same hk9)
        clear hk9
        go_wp2_with fail
        ((with_reducible refine (HPR.out _).mono ?_); rintro e w10 ⟨rfl, hk10⟩)
        have HK10 := Lib.hid (HK9.out.trans hk10 (fun _ _ e => e))
        have HE10 := Lib.hid (HE9.out.same hk10)
        have HUP10 := Lib.hid (HUP9.out.same hk10)
        have HLS10 := Lib.hid (HLS9.out.same hk10)
        clear hk10
        go_wp2_with fail
        ((with_reducible refine (HBA.out _ HE10.out).mono ?_); rintro e w11 ⟨rfl, hk11⟩)
        have HK11 := Lib.hid (HK10.out.trans hk11 (fun _ _ e => e))
        have HE11 := Lib.hid (HE10.out.same hk11)
        have HUP11 := Lib.hid (HUP10.out.same hk11)
        have HLS11 := Lib.hid (HLS10.out.same hk11)
        clear hk11
        go_wp2_with fail
        ((with_reducible refine (HBR.out _).mono ?_); rintro e w12 ⟨rfl, hk12⟩)
        have HK12 := Lib.hid (HK11.out.trans hk12 (fun _ _ e => e))
        have HE12 := Lib.hid (HE11.out.same hk12)
        have HUP12 := Lib.hid (HUP11.out.same hk12)
        have HLS12 := Lib.hid (HLS11.out.same hk12)
        clear hk12
        go_wp2_with fail
        ((with_reducible refine (HAN.out _ HE12.out).mono ?_); rintro e w13 ⟨vo, vc, rfl, hst, hk13⟩)
        have HK13 := Lib.hid (HK12.out.trans hk13 (fun _ _ e => e))
        have HE13 := Lib.hid (HE12.out.same hk13)
        have HUP13 := Lib.hid (HUP12.out.same hk13)
        have HLS13 := Lib.hid (HLS12.out.same hk13)
        have HQ13 := Lib.hid hst
        clear hst hk13
        go_wp2_with fail
        ((with_reducible refine (same_any vo bo j j vc d _ _ _ HQ13.out HUP13.out (by rw [List.length_map]; exact HUL.out) (by rw [List.length_map]; exact HUL.out) (by omega) (by omega)).mono ?_); rintro e w14 ⟨rfl, hk14⟩)
        have HK14 := Lib.hid (HK13.out.trans hk14 (fun _ _ e => e))
        have HE14 := Lib.hid (HE13.out.same hk14)
        have HUP14 := Lib.hid (HUP13.out.same hk14)
        have HLS14 := Lib.hid (HLS13.out.same hk14)
        rw [decide_eq_true rfl]
        clear hk14
        go_wp2
        go_ret
        exact ⟨rfl, HK14.out⟩
      | false =>
        go_wp2_with fail
        ((with_reducible refine (HNA.out _).mono ?_); rintro e w4 ⟨rfl, hk4⟩)
        have HK4 := Lib.hid (HK3.out.trans hk4 (fun _ _ e => e))
        have HE4 := Lib.hid (HE3.out.same hk4)
        have HUP4 := Lib.hid (HUP3.out.same hk4)
        have HLS4 := Lib.hid (HLS3.out.same hk4)
        clear hk4
        go_wp2_with fail
        ((with_reducible refine (HNR.out _).mono ?_); rintro e w5 ⟨rfl, hk5⟩)
        have HK5 := Lib.hid (HK4.out.trans hk5 (fun _ _ e => e))
        have HE5 := Lib.hid (HE4.out.same hk5)
        have HUP5 := Lib.hid (HUP4.out.same hk5)
        have HLS5 := Lib.hid (HLS4.out.same hk5)
        clear hk5
        go_wp2_with fail
        ((with_reducible refine (HCH.out _ HE5.out).mono ?_); rintro e w6 ⟨rfl, hk6⟩)
        have HK6 := Lib.hid (HK5.out.trans hk6 (fun _ _ e => e))
        have HE6 := Lib.hid (HE5.out.same hk6)
        have HUP6 := Lib.hid (HUP5.out.same hk6)
        have HLS6 := Lib.hid (HLS5.out.same hk6)
        clear hk6
        go_wp2_with fail
        ((with_reducible refine (HCH.out _ HE6.out).mono ?_); rintro e w7 ⟨rfl, hk7⟩)
        have HK7 := Lib.hid (HK6.out.trans hk7 (fun _ _ e => e))
        have HE7 := Lib.hid (HE6.out.same hk7)
        have HUP7 := Lib.hid (HUP6.out.same hk7)
        have HLS7 := Lib.hid (HLS6.out.same hk7)
        clear hk7
        go_wp2_with fail
        ((with_reducible refine (HSP.out _ HE7.out).mono ?_); rintro e w8 ⟨qo, rfl, hst, ha, hk8⟩)
        have HK8 := Lib.hid (HK7.out.trans hk8 (fun _ _ e => e))
        have HE8 := Lib.hid (HE7.out.same hk8)
        have HUP8 := Lib.hid (HUP7.out.same hk8)
        have HLS8 := Lib.hid (HLS7.out.same hk8)
        have HQ8 := Lib.hid hst
        clear hst ha hk8
        go_wp2_with fail
        ((with_reducible refine (same_any qo ao j j j c _ _ _ HQ8.out HLS8.out (by rw [List.length_map]; exact HN.out) (by rw [List.length_map]; exact HN.out) (by omega) (by omega)).mono ?_); rintro e w9 ⟨rfl, hk9⟩)
        have HK9 := Lib.hid (HK8.out.trans hk9 (fun _ _ e => e))
        have HE9 := Lib.hid (HE8.out.same hk9)
        have HUP9 := Lib.hid (HUP8.out.same hk9)
        have HLS9 := Lib.hid (HLS8.out.same hk9)
        rw [decide_eq_true rfl]
        clear hk9
        go_wp2_with fail
        ((with_reducible refine (HPA.out _ HE9.out).mono ?_); rintro e w10 ⟨rfl, hk10⟩)
        have HK10 := Lib.hid (HK9.out.trans hk10 (fun _ _ e => e))
        have HE10 := Lib.hid (HE9.out.same hk10)
        have HUP10 := Lib.hid (HUP9.out.same hk10)
        have HLS10 := Lib.hid (HLS9.out.same hk10)
        clear hk10
        go_wp2_with fail
        ((with_reducible refine (HPR.out _).mono ?_); rintro e w11 ⟨rfl, hk11⟩)
        have HK11 := Lib.hid (HK10.out.trans hk11 (fun _ _ e => e))
        have HE11 := Lib.hid (HE10.out.same hk11)
        have HUP11 := Lib.hid (HUP10.out.same hk11)
        have HLS11 := Lib.hid (HLS10.out.same hk11)
        clear hk11
        go_wp2_with fail
        ((with_reducible refine (HBA.out _ HE11.out).mono ?_); rintro e w12 ⟨rfl, hk12⟩)
        have HK12 := Lib.hid (HK11.out.trans hk12 (fun _ _ e => e))
        have HE12 := Lib.hid (HE11.out.same hk12)
        have HUP12 := Lib.hid (HUP11.out.same hk12)
        have HLS12 := Lib.hid (HLS11.out.same hk12)
        clear hk12
        go_wp2_with fail
        ((with_reducible refine (HBR.out _).mono ?_); rintro e w13 ⟨rfl, hk13⟩)
        have HK13 := Lib.hid (HK12.out.trans hk13 (fun _ _ e => e))
        have HE13 := Lib.hid (HE12.out.same hk13)
        have HUP13 := Lib.hid (HUP12.out.same hk13)
        have HLS13 := Lib.hid (HLS12.out.same hk13)
        clear hk13
        go_wp2_with fail
        ((with_reducible refine (HAN.out _ HE13.out).mono ?_); rintro e w14 ⟨vo, vc, rfl, hst, hk14⟩)
        have HK14 := Lib.hid (HK13.out.trans hk14 (fun _ _ e => e))
        have HE14 := Lib.hid (HE13.out.same hk14)
        have HUP14 := Lib.hid (HUP13.out.same hk14)
        have HLS14 := Lib.hid (HLS13.out.same hk14)
        have HQ14 := Lib.hid hst
        clear hst hk14
        go_wp2_with fail
        ((with_reducible refine (same_any vo bo j j vc d _ _ _ HQ14.out HUP14.out (by rw [List.length_map]; exact HUL.out) (by rw [List.length_map]; exact HUL.out) (by omega) (by omega)).mono ?_); rintro e w15 ⟨rfl, hk15⟩)
        have HK15 := Lib.hid (HK14.out.trans hk15 (fun _ _ e => e))
        have HE15 := Lib.hid (HE14.out.same hk15)
        have HUP15 := Lib.hid (HUP14.out.same hk15)
        have HLS15 := Lib.hid (HLS14.out.same hk15)
        rw [decide_eq_true rfl]
        clear hk15
        go_wp2
        go_ret
        exact ⟨rfl, HK15.out⟩
end Go.Proofs.YtjehihgcbbialaaDoor
