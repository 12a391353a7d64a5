/- The document's Same of lists of digests. -/
import Derived.Test.YtafgiljgefeefaaDoorWm5
import Derived.Test.YtafgiljgefeefaaDoorEqH
import Derived.Test.YtafgiljgefeefaaDoorOst
namespace Go.Proofs.YtafgiljgefeefaaDoor
open Go.RowKit
set_option linter.unusedVariables false

theorem take_stepW {α : Type} {l m : List α} {j : Nat} {x : α} (h : l.take j = m.take j) (hl : l[j]? = some x) (hm : m[j]? = some x) : l.take (j + 1) = m.take (j + 1) := by
  rw [List.take_add_one, List.take_add_one, h, hl, hm]
theorem ne_atW {α : Type} {l m : List α} {j : Nat} {x y : α} (hl : l[j]? = some x) (hm : m[j]? = some y) (h : ¬ x = y) : ¬ l = m := fun e => h (by
  rw [e, hm] at hl
  exact (Option.some.inj hl).symm)
theorem BoolPost.noW {w w' : World} {p : Prop} (k : Same w w') (h : ¬ p) : BoolPost w p (.returned (.bool false)) w' := ⟨false, rfl, ⟨fun e => (by cases e), fun e => absurd e h⟩, k⟩
theorem BoolPost.yesW {w w' : World} {p : Prop} (k : Same w w') (h : p) : BoolPost w p (.returned (.bool true)) w' := ⟨true, rfl, ⟨fun _ => h, fun _ => rfl⟩, k⟩

set_option maxRecDepth 100000 in
set_option maxHeartbeats 12800000 in
theorem sameHs_any (ao bo : Option Addr) (n m cap bcap : Nat) (hs ks : List (List UInt8)) (w : World) (hx : Hss w ao hs) (hy : Hss w bo ks) (hn : hs.length = n) (hm : ks.length = m) (hl : n ≤ 140737488351232) :
    Calls Tryd.prog 23 #[.slice ao n cap, .slice bo m bcap] w (BoolPost w (hs = ks)) := by
  have HX := Lib.hid hx
  have HY := Lib.hid hy
  have HN := Lib.hid hn
  have HM := Lib.hid hm
  have HZ := Lib.hid Tryd.sizeHashW
  clear hx hy
  by_cases hnm : n = m
  case neg =>
    have HF : Hid (¬ hs = ks) := Lib.hid (fun e => hnm (by rw [← hn, ← hm, e]))
    have hb : ((n : Int) == (m : Int)) = false := by simp; omega
    clear hn hm
    go_enter Tryd.func23, Tryd.ntmps23
    go_wp2
    go_ret
    exact BoolPost.noW (Keeps.refl _ _) HF.out
  subst hnm
  clear hn hm
  go_enter Tryd.func23, Tryd.ntmps23
  go_wp2
  go_loopw [5] (fun i wr => ∃ j : Nat, j ≤ n ∧ i = .int .i64 j ∧ Hid (hs.take j = ks.take j) ∧ Hid (Same w wr)) (fun i _ => n - (intOf i).toNat)
  case atStart => exact ⟨0, by omega, rfl, Lib.hid (by simp), Lib.hid (Keeps.refl _ _)⟩
  case round =>
    obtain ⟨j, hj, rfl, HT, HS⟩ := hrel
    by_cases hlt : j < n
    · have hjp : j < hs.length := by rw [HN.out]; exact hlt
      have hjq : j < ks.length := by rw [HM.out]; exact hlt
      obtain ⟨g, off, rfl, ha⟩ := (HX.out.same HS.out).at hjp
      obtain ⟨g2, off2, rfl, hb⟩ := (HY.out.same HS.out).at hjq
      have HL1 : Hid ((hs[j]).length = 32) := Lib.hid (HX.out.1 _ (List.getElem_mem hjp))
      have HL2 : Hid ((ks[j]).length = 32) := Lib.hid (HY.out.1 _ (List.getElem_mem hjq))
      have HG1 : Hid (hs[j]? = some hs[j]) := Lib.hid (List.getElem?_eq_getElem hjp)
      have HG2 : Hid (ks[j]? = some ks[j]) := Lib.hid (List.getElem?_eq_getElem hjq)
      have HA := Lib.hid ha
      have HB := Lib.hid hb
      clear ha hb
      generalize hs[j] = x at HL1 HG1 HA
      generalize ks[j] = y at HL2 HG2 HB
      have hjn : (j : Int) < (n : Int) := by omega
      clear hjp hjq
      by_cases hd : x = y
      · subst hd
        go_wp2
        refine wp_region_do [[], [], [0, 1], [2], [], [], [4, 5], [6], [3, 7]]
          [some 17, some 18, some 19, some 20, some 21, some 22, some 23, some 24, some 25]
          [.is (.slice (some ⟨g, off, none⟩) n cap), .is (.int .i64 (j : Int)), .is (.pointer (some ⟨g, off + j * 32, none⟩)), .is (.agg (u8s x).toArray), .is (.slice (some ⟨g2, off2, none⟩) n bcap), .is (.int .i64 (j : Int)), .is (.pointer (some ⟨g2, off2 + j * 32, none⟩)), .is (.agg (u8s x).toArray), .is (.bool false)]
          6 _ _ 26 9 (by kernel_rfl) (by rfl) (by rfl) (by kernel_rfl) (by kernel_rfl) (by decide) ?_ ?_
        · refine ⟨?_, ?_, ?_, ?_, ?_, ?_, ?_, ?_, ?_, trivial⟩
          · intro a w' K hs' hdep hfr hK
            have f0 := hfr 0 (by decide)
            exact plan_do (by rfl) (plan_yield (i := 0) (V := fun _ _ v => v = (.slice (some ⟨g, off, none⟩) n cap : Value)) (.slice (some ⟨g, off, none⟩) n cap) (by go_simp) rfl hK)
          · intro a w' K hs' hdep hfr hK
            have f5 := hfr 5 (by decide)
            exact plan_do (by rfl) (plan_yield (i := 1) (V := fun _ _ v => v = (.int .i64 (j : Int) : Value)) (.int .i64 (j : Int)) (by go_simp) rfl hK)
          · intro a w' K hs' hdep hfr hK
            have e17 : a.tmps[17]?.getD undef = (.slice (some ⟨g, off, none⟩) n cap) := hdep 0 (by decide) 17 rfl
            have e18 : a.tmps[18]?.getD undef = (.int .i64 (j : Int)) := hdep 1 (by decide) 18 rfl
            have hin : (j : Int) < (n : Int) := by omega
            exact plan_do (by rfl) (plan_yield (i := 2) (V := fun _ _ v => v = (.pointer (some ⟨g, off + j * 32, none⟩) : Value)) (.pointer (some ⟨g, off + j * 32, none⟩)) (by go_simp) rfl hK)
          · intro a w' K hs' hdep hfr hK
            have e19 : a.tmps[19]?.getD undef = (.pointer (some ⟨g, off + j * 32, none⟩)) := hdep 2 (by decide) 19 rfl
            exact plan_do (by rfl) (wp_load_mid (P := Tryd.prog) 32 (.tmp 19) rfl g (off + j * 32) ((eval_tmp _ _).trans e19) (u8s x) _ (rangeW_same HA.out hs') Tryd.underlying32 rfl (HZ.out.trans (congrArg some (by rw [u8s_length, HL1.out]))) (hK _ _ (Keeps.refl _ _) rfl))
          · intro a w' K hs' hdep hfr hK
            have f1 := hfr 1 (by decide)
            exact plan_do (by rfl) (plan_yield (i := 4) (V := fun _ _ v => v = (.slice (some ⟨g2, off2, none⟩) n bcap : Value)) (.slice (some ⟨g2, off2, none⟩) n bcap) (by go_simp) rfl hK)
          · intro a w' K hs' hdep hfr hK
            have f5 := hfr 5 (by decide)
            exact plan_do (by rfl) (plan_yield (i := 5) (V := fun _ _ v => v = (.int .i64 (j : Int) : Value)) (.int .i64 (j : Int)) (by go_simp) rfl hK)
          · intro a w' K hs' hdep hfr hK
            have e21 : a.tmps[21]?.getD undef = (.slice (some ⟨g2, off2, none⟩) n bcap) := hdep 4 (by decide) 21 rfl
            have e22 : a.tmps[22]?.getD undef = (.int .i64 (j : Int)) := hdep 5 (by decide) 22 rfl
            have hin : (j : Int) < (n : Int) := by omega
            exact plan_do (by rfl) (plan_yield (i := 6) (V := fun _ _ v => v = (.pointer (some ⟨g2, off2 + j * 32, none⟩) : Value)) (.pointer (some ⟨g2, off2 + j * 32, none⟩)) (by go_simp) rfl hK)
          · intro a w' K hs' hdep hfr hK
            have e23 : a.tmps[23]?.getD undef = (.pointer (some ⟨g2, off2 + j * 32, none⟩)) := hdep 6 (by decide) 23 rfl
            exact plan_do (by rfl) (wp_load_mid (P := Tryd.prog) 32 (.tmp 23) rfl g2 (off2 + j * 32) ((eval_tmp _ _).trans e23) (u8s x) _ (rangeW_same HB.out hs') Tryd.underlying32 rfl (HZ.out.trans (congrArg some (by rw [u8s_length, HL1.out]))) (hK _ _ (Keeps.refl _ _) rfl))
          · intro a w' K hs' hdep hfr hK
            have e20 : a.tmps[20]?.getD undef = (.agg (u8s x).toArray) := hdep 3 (by decide) 20 rfl
            have e24 : a.tmps[24]?.getD undef = (.agg (u8s x).toArray) := hdep 7 (by decide) 24 rfl
            refine plan_do (by rfl) (plan_go (.bool false) w' (Eq.trans (exec_neq_is (.tmp 20) (.tmp 24) 32 32 (by rfl) (u8s x).toArray (u8s x).toArray (decide (x = x)) ((eval_tmp _ _).trans e20) ((eval_tmp _ _).trans e24) Tryd.hashGuardH (hash_equal x x HL1.out HL1.out)) ?_) (hK _ _ (Keeps.refl _ _) rfl))
            simp
        intro a wz hkz hdef hsz hv hfr
        have e25 : a.tmps[25]?.getD undef = (.bool false) := hv 8 25 rfl
        have he := act_eq a _ [some 17, some 18, some 19, some 20, some 21, some 22, some 23, some 24, some 25] 26 rfl hsz hdef hfr (fun d => a.tmps[d]?.getD undef) (fun _ _ => rfl)
        obtain ⟨v17, h17⟩ : ∃ v, a.tmps[17]?.getD undef = v := ⟨_, rfl⟩
        obtain ⟨v18, h18⟩ : ∃ v, a.tmps[18]?.getD undef = v := ⟨_, rfl⟩
        obtain ⟨v19, h19⟩ : ∃ v, a.tmps[19]?.getD undef = v := ⟨_, rfl⟩
        obtain ⟨v20, h20⟩ : ∃ v, a.tmps[20]?.getD undef = v := ⟨_, rfl⟩
        obtain ⟨v21, h21⟩ : ∃ v, a.tmps[21]?.getD undef = v := ⟨_, rfl⟩
        obtain ⟨v22, h22⟩ : ∃ v, a.tmps[22]?.getD undef = v := ⟨_, rfl⟩
        obtain ⟨v23, h23⟩ : ∃ v, a.tmps[23]?.getD undef = v := ⟨_, rfl⟩
        obtain ⟨v24, h24⟩ : ∃ v, a.tmps[24]?.getD undef = v := ⟨_, rfl⟩
        simp only [putAll, e25, h17, h18, h19, h20, h21, h22, h23, h24, List.setIfInBounds_toArray, List.set_cons_zero, List.set_cons_succ] at he
        clear e25 h17 h18 h19 h20 h21 h22 h23 h24 hdef hsz hv hfr
        subst he
        have HKZ := Lib.hid hkz
        clear hkz
        go_wp2
        go_roundw
        case rel => exact ⟨j + 1, by omega, by go_num, Lib.hid (take_stepW HT.out HG1.out HG2.out), Lib.hid (HS.out.trans HKZ.out (fun _ _ e => e))⟩
        case measure => simp [intOf]; omega
      · have HD := Lib.hid hd
        clear hd
        go_wp2
        refine wp_region_do [[], [], [0, 1], [2], [], [], [4, 5], [6], [3, 7]]
          [some 17, some 18, some 19, some 20, some 21, some 22, some 23, some 24, some 25]
          [.is (.slice (some ⟨g, off, none⟩) n cap), .is (.int .i64 (j : Int)), .is (.pointer (some ⟨g, off + j * 32, none⟩)), .is (.agg (u8s x).toArray), .is (.slice (some ⟨g2, off2, none⟩) n bcap), .is (.int .i64 (j : Int)), .is (.pointer (some ⟨g2, off2 + j * 32, none⟩)), .is (.agg (u8s y).toArray), .is (.bool true)]
          6 _ _ 26 9 (by kernel_rfl) (by rfl) (by rfl) (by kernel_rfl) (by kernel_rfl) (by decide) ?_ ?_
        · refine ⟨?_, ?_, ?_, ?_, ?_, ?_, ?_, ?_, ?_, trivial⟩
          · intro a w' K hs' hdep hfr hK
            have f0 := hfr 0 (by decide)
            exact plan_do (by rfl) (plan_yield (i := 0) (V := fun _ _ v => v = (.slice (some ⟨g, off, none⟩) n cap : Value)) (.slice (some ⟨g, off, none⟩) n cap) (by go_simp) rfl hK)
          · intro a w' K hs' hdep hfr hK
            have f5 := hfr 5 (by decide)
            exact plan_do (by rfl) (plan_yield (i := 1) (V := fun _ _ v => v = (.int .i64 (j : Int) : Value)) (.int .i64 (j : Int)) (by go_simp) rfl hK)
          · intro a w' K hs' hdep hfr hK
            have e17 : a.tmps[17]?.getD undef = (.slice (some ⟨g, off, none⟩) n cap) := hdep 0 (by decide) 17 rfl
            have e18 : a.tmps[18]?.getD undef = (.int .i64 (j : Int)) := hdep 1 (by decide) 18 rfl
            have hin : (j : Int) < (n : Int) := by omega
            exact plan_do (by rfl) (plan_yield (i := 2) (V := fun _ _ v => v = (.pointer (some ⟨g, off + j * 32, none⟩) : Value)) (.pointer (some ⟨g, off + j * 32, none⟩)) (by go_simp) rfl hK)
          · intro a w' K hs' hdep hfr hK
            have e19 : a.tmps[19]?.getD undef = (.pointer (some ⟨g, off + j * 32, none⟩)) := hdep 2 (by decide) 19 rfl
            exact plan_do (by rfl) (wp_load_mid (P := Tryd.prog) 32 (.tmp 19) rfl g (off + j * 32) ((eval_tmp _ _).trans e19) (u8s x) _ (rangeW_same HA.out hs') Tryd.underlying32 rfl (HZ.out.trans (congrArg some (by rw [u8s_length, HL1.out]))) (hK _ _ (Keeps.refl _ _) rfl))
          · intro a w' K hs' hdep hfr hK
            have f1 := hfr 1 (by decide)
            exact plan_do (by rfl) (plan_yield (i := 4) (V := fun _ _ v => v = (.slice (some ⟨g2, off2, none⟩) n bcap : Value)) (.slice (some ⟨g2, off2, none⟩) n bcap) (by go_simp) rfl hK)
          · intro a w' K hs' hdep hfr hK
            have f5 := hfr 5 (by decide)
            exact plan_do (by rfl) (plan_yield (i := 5) (V := fun _ _ v => v = (.int .i64 (j : Int) : Value)) (.int .i64 (j : Int)) (by go_simp) rfl hK)
          · intro a w' K hs' hdep hfr hK
            have e21 : a.tmps[21]?.getD undef = (.slice (some ⟨g2, off2, none⟩) n bcap) := hdep 4 (by decide) 21 rfl
            have e22 : a.tmps[22]?.getD undef = (.int .i64 (j : Int)) := hdep 5 (by decide) 22 rfl
            have hin : (j : Int) < (n : Int) := by omega
            exact plan_do (by rfl) (plan_yield (i := 6) (V := fun _ _ v => v = (.pointer (some ⟨g2, off2 + j * 32, none⟩) : Value)) (.pointer (some ⟨g2, off2 + j * 32, none⟩)) (by go_simp) rfl hK)
          · intro a w' K hs' hdep hfr hK
            have e23 : a.tmps[23]?.getD undef = (.pointer (some ⟨g2, off2 + j * 32, none⟩)) := hdep 6 (by decide) 23 rfl
            exact plan_do (by rfl) (wp_load_mid (P := Tryd.prog) 32 (.tmp 23) rfl g2 (off2 + j * 32) ((eval_tmp _ _).trans e23) (u8s y) _ (rangeW_same HB.out hs') Tryd.underlying32 rfl (HZ.out.trans (congrArg some (by rw [u8s_length, HL2.out]))) (hK _ _ (Keeps.refl _ _) rfl))
          · intro a w' K hs' hdep hfr hK
            have e20 : a.tmps[20]?.getD undef = (.agg (u8s x).toArray) := hdep 3 (by decide) 20 rfl
            have e24 : a.tmps[24]?.getD undef = (.agg (u8s y).toArray) := hdep 7 (by decide) 24 rfl
            refine plan_do (by rfl) (plan_go (.bool true) w' (Eq.trans (exec_neq_is (.tmp 20) (.tmp 24) 32 32 (by rfl) (u8s x).toArray (u8s y).toArray (decide (x = y)) ((eval_tmp _ _).trans e20) ((eval_tmp _ _).trans e24) Tryd.hashGuardH (hash_equal x y HL1.out HL2.out)) ?_) (hK _ _ (Keeps.refl _ _) rfl))
            simp [HD.out]
        intro a wz hkz hdef hsz hv hfr
        have e25 : a.tmps[25]?.getD undef = (.bool true) := hv 8 25 rfl
        have he := act_eq a _ [some 17, some 18, some 19, some 20, some 21, some 22, some 23, some 24, some 25] 26 rfl hsz hdef hfr (fun d => a.tmps[d]?.getD undef) (fun _ _ => rfl)
        obtain ⟨v17, h17⟩ : ∃ v, a.tmps[17]?.getD undef = v := ⟨_, rfl⟩
        obtain ⟨v18, h18⟩ : ∃ v, a.tmps[18]?.getD undef = v := ⟨_, rfl⟩
        obtain ⟨v19, h19⟩ : ∃ v, a.tmps[19]?.getD undef = v := ⟨_, rfl⟩
        obtain ⟨v20, h20⟩ : ∃ v, a.tmps[20]?.getD undef = v := ⟨_, rfl⟩
        obtain ⟨v21, h21⟩ : ∃ v, a.tmps[21]?.getD undef = v := ⟨_, rfl⟩
        obtain ⟨v22, h22⟩ : ∃ v, a.tmps[22]?.getD undef = v := ⟨_, rfl⟩
        obtain ⟨v23, h23⟩ : ∃ v, a.tmps[23]?.getD undef = v := ⟨_, rfl⟩
        obtain ⟨v24, h24⟩ : ∃ v, a.tmps[24]?.getD undef = v := ⟨_, rfl⟩
        simp only [putAll, e25, h17, h18, h19, h20, h21, h22, h23, h24, List.setIfInBounds_toArray, List.set_cons_zero, List.set_cons_succ] at he
        clear e25 h17 h18 h19 h20 h21 h22 h23 h24 hdef hsz hv hfr
        subst he
        have HKZ := Lib.hid hkz
        clear hkz
        go_wp2
        go_ret
        exact BoolPost.noW (HS.out.trans HKZ.out (fun _ _ e => e)) (ne_atW HG1.out HG2.out HD.out)
    · obtain rfl : j = n := by omega
      have hjn : ¬ (j : Int) < (j : Int) := by omega
      go_wp2
      go_ret
      refine BoolPost.yesW HS.out ?_
      have := HT.out
      rwa [List.take_of_length_le (by rw [HN.out]; exact Nat.le_refl _), List.take_of_length_le (by rw [HM.out]; exact Nat.le_refl _)] at this
end Go.Proofs.YtafgiljgefeefaaDoor
