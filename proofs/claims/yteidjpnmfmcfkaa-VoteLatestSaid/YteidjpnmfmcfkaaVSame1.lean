/- The document's Same of VoteX. -/
import Derived.Test.YteidjpnmfmcfkaaVAdd1
import Derived.Test.YteidjpnmfmcfkaaPlan5
import Derived.Test.YteidjpnmfmcfkaaOrdk
import Derived.Test.YteidjpnmfmcfkaaEqH
namespace Go.Proofs.Yteidjpnmfmcfkaa
open Go.RowKit
set_option linter.unusedVariables false

set_option maxRecDepth 100000 in
set_option maxHeartbeats 12800000 in
theorem refSame_any (ao bo : Option Addr) (n m cap dcap : Nat) (us vs : List VoteX) (w : World) (hu : VotesAt w ao us) (hv : VotesAt w bo vs) (hou : ∀ v ∈ us, v.head.length = 32) (hov : ∀ v ∈ vs, v.head.length = 32) (hn : us.length = n) (hm : vs.length = m) (hl : n ≤ 1000000) (hl2 : m ≤ 1000000) :
    Calls Try.prog 13 #[.slice ao n cap, .slice bo m dcap] w fun e w' => e = .returned (.bool (decide (us = vs))) ∧ Same w w' := by
  have HU := Lib.hid hu
  have HV := Lib.hid hv
  have HOU := Lib.hid hou
  have HOV := Lib.hid hov
  have HN := Lib.hid hn
  have HM := Lib.hid hm
  obtain ⟨r, hr⟩ : ∃ r, decide (us = vs) = r := ⟨_, rfl⟩
  have HR := Lib.hid hr
  rw [hr]
  clear hu hv hou hov hr
  by_cases hnm : n = m
  case neg =>
    have HF : Hid (r = false) := Lib.hid (by rw [← HR.out]; exact decide_eq_false (fun e => hnm (by rw [← hn, ← hm, e])))
    have hb : ((n : Int) == (m : Int)) = false := by simp; omega
    clear hn hm
    go_enter Try.func13, Try.ntmps13
    go_wp2
    go_ret
    exact ⟨by rw [HF.out]; rfl, Keeps.refl _ _⟩
  subst hnm
  clear hn hm
  go_enter Try.func13, Try.ntmps13
  go_wp2
  go_loopw [5] (fun i wr => ∃ j : Nat, j ≤ n ∧ i = .int .i64 j ∧ Hid (us.take j = vs.take j) ∧ Hid (Same w wr)) (fun i _ => n - (intOf i).toNat)
  case atStart => exact ⟨0, by omega, rfl, Lib.hid (by simp), Lib.hid (Keeps.refl _ _)⟩
  case round =>
    obtain ⟨j, hj, rfl, HT, HS⟩ := hrel
    by_cases hlt : j < n
    · have hju : j < us.length := by rw [HN.out]; exact hlt
      have hjv : j < vs.length := by rw [HM.out]; exact hlt
      obtain ⟨g, off, rfl, hra⟩ := (HU.out.same HS.out).at hju
      obtain ⟨g2, off2, rfl, hrb⟩ := (HV.out.same HS.out).at hjv
      have HX1 : Hid (us[j]? = some us[j]) := Lib.hid (List.getElem?_eq_getElem hju)
      have HY1 : Hid (vs[j]? = some vs[j]) := Lib.hid (List.getElem?_eq_getElem hjv)
      have HXO : Hid ((fun v : VoteX => v.head.length = 32) us[j]) := Lib.hid (HOU.out _ (List.getElem_mem hju))
      have HYO : Hid ((fun v : VoteX => v.head.length = 32) vs[j]) := Lib.hid (HOV.out _ (List.getElem_mem hjv))
      generalize us[j] = x at hra HX1 HXO
      generalize vs[j] = y at hrb HY1 HYO
      have HRX := Lib.hid hra
      have HRY := Lib.hid hrb
      have HSX := Lib.hid (size_voteL x HXO.out)
      have HSY := Lib.hid (size_voteL y HYO.out)
      have hjn : (j : Int) < (n : Int) := by omega
      clear hra hrb hju hjv
      by_cases hd : x = y
      · have HEQ : Hid (∀ wz, (Op.equalIn 10000 31 (.agg x.cells.toArray) (.agg y.cells.toArray)).run Try.prog wz = .ok true wz) := Lib.hid (fun wz => by rw [vote_equal x y HXO.out HYO.out, decide_eq_true hd])
        have HT2 : Hid (us.take (j + 1) = vs.take (j + 1)) := Lib.hid (by rw [List.take_add_one, List.take_add_one, HT.out, HX1.out, HY1.out, hd])
        clear hd
        go_wp2
        refine wp_region_do [[], [], [0, 1], [2], [], [], [4, 5], [6], [3, 7]]
          [some 17, some 18, some 19, some 20, some 21, some 22, some 23, some 24, some 25]
          [.is (.slice (some ⟨g, off, none⟩) n cap), .is (.int .i64 (j : Int)), .is (.pointer (some ⟨g, off + j * 37, none⟩)), .is (.agg x.cells.toArray), .is (.slice (some ⟨g2, off2, none⟩) n dcap), .is (.int .i64 (j : Int)), .is (.pointer (some ⟨g2, off2 + j * 37, none⟩)), .is (.agg y.cells.toArray), .is (.bool false)]
          6 _ _ 26 9 (by kernel_rfl) (by rfl) (by rfl) (by kernel_rfl) (by kernel_rfl) (by decide) ?_ ?_
        · refine ⟨?_, ?_, ?_, ?_, ?_, ?_, ?_, ?_, ?_, trivial⟩
          · intro a w' K hs' hdep hfr hK
            have f0 := hfr 0 (by decide)
            exact plan_do (by rfl) (plan_yield (i := 0) (V := fun _ _ v => v = (.slice (some ⟨g, off, none⟩) n cap : Value)) (.slice (some ⟨g, off, none⟩) n cap) (by go_simp) rfl hK)
          · intro a w' K hs' hdep hfr hK
            have f5 := hfr 5 (by decide)
            exact plan_do (by rfl) (plan_yield (i := 1) (V := fun _ _ v => v = (.int .i64 (j : Int) : Value)) (.int .i64 (j : Int)) (by go_simp) rfl hK)
          · intro a w' K hs' hdep hfr hK
            have e17 : a.tmps[17]?.getD undef = (.slice (some ⟨g, off, none⟩) n cap) := hdep 0 (by decide) 17 rfl
            have e18 : a.tmps[18]?.getD undef = (.int .i64 (j : Int)) := hdep 1 (by decide) 18 rfl
            have hin : (j : Int) < (n : Int) := by omega
            exact plan_do (by rfl) (plan_yield (i := 2) (V := fun _ _ v => v = (.pointer (some ⟨g, off + j * 37, none⟩) : Value)) (.pointer (some ⟨g, off + j * 37, none⟩)) (by go_simp) rfl hK)
          · intro a w' K hs' hdep hfr hK
            have e19 : a.tmps[19]?.getD undef = (.pointer (some ⟨g, off + j * 37, none⟩)) := hdep 2 (by decide) 19 rfl
            exact plan_do (by rfl) (wp_load_mid (P := Try.prog) 31 (.tmp 19) rfl g (off + j * 37) ((eval_tmp _ _).trans e19) x.cells _ (rangeAt_keep HRX.out hs' (fun _ e => e)) Try.underlying31 rfl HSX.out (hK _ _ (Keeps.refl _ _) rfl))
          · intro a w' K hs' hdep hfr hK
            have f1 := hfr 1 (by decide)
            exact plan_do (by rfl) (plan_yield (i := 4) (V := fun _ _ v => v = (.slice (some ⟨g2, off2, none⟩) n dcap : Value)) (.slice (some ⟨g2, off2, none⟩) n dcap) (by go_simp) rfl hK)
          · intro a w' K hs' hdep hfr hK
            have f5 := hfr 5 (by decide)
            exact plan_do (by rfl) (plan_yield (i := 5) (V := fun _ _ v => v = (.int .i64 (j : Int) : Value)) (.int .i64 (j : Int)) (by go_simp) rfl hK)
          · intro a w' K hs' hdep hfr hK
            have e21 : a.tmps[21]?.getD undef = (.slice (some ⟨g2, off2, none⟩) n dcap) := hdep 4 (by decide) 21 rfl
            have e22 : a.tmps[22]?.getD undef = (.int .i64 (j : Int)) := hdep 5 (by decide) 22 rfl
            have hin : (j : Int) < (n : Int) := by omega
            exact plan_do (by rfl) (plan_yield (i := 6) (V := fun _ _ v => v = (.pointer (some ⟨g2, off2 + j * 37, none⟩) : Value)) (.pointer (some ⟨g2, off2 + j * 37, none⟩)) (by go_simp) rfl hK)
          · intro a w' K hs' hdep hfr hK
            have e23 : a.tmps[23]?.getD undef = (.pointer (some ⟨g2, off2 + j * 37, none⟩)) := hdep 6 (by decide) 23 rfl
            exact plan_do (by rfl) (wp_load_mid (P := Try.prog) 31 (.tmp 23) rfl g2 (off2 + j * 37) ((eval_tmp _ _).trans e23) y.cells _ (rangeAt_keep HRY.out hs' (fun _ e => e)) Try.underlying31 rfl HSY.out (hK _ _ (Keeps.refl _ _) rfl))
          · intro a w' K hs' hdep hfr hK
            have e20 : a.tmps[20]?.getD undef = (.agg x.cells.toArray) := hdep 3 (by decide) 20 rfl
            have e24 : a.tmps[24]?.getD undef = (.agg y.cells.toArray) := hdep 7 (by decide) 24 rfl
            exact plan_do (by rfl) (plan_yield (i := 8) (V := fun _ _ v => v = (.bool false : Value)) (.bool false) (exec_neq_is (.tmp 20) (.tmp 24) 31 31 rfl x.cells.toArray y.cells.toArray true ((eval_tmp _ _).trans e20) ((eval_tmp _ _).trans e24) Try.voteGuard HEQ.out) rfl hK)
        intro a wz hkz hdef hsz hv hfr
        have e25 : a.tmps[25]?.getD undef = (.bool false) := hv 8 25 rfl
        have he := act_eq a _ [some 17, some 18, some 19, some 20, some 21, some 22, some 23, some 24, some 25] 26 rfl hsz hdef hfr (fun d => a.tmps[d]?.getD undef) (fun _ _ => rfl)
        obtain ⟨v17, h17⟩ : ∃ v, a.tmps[17]?.getD undef = v := ⟨_, rfl⟩
        obtain ⟨v18, h18⟩ : ∃ v, a.tmps[18]?.getD undef = v := ⟨_, rfl⟩
        obtain ⟨v19, h19⟩ : ∃ v, a.tmps[19]?.getD undef = v := ⟨_, rfl⟩
        obtain ⟨v20, h20⟩ : ∃ v, a.tmps[20]?.getD undef = v := ⟨_, rfl⟩
        obtain ⟨v21, h21⟩ : ∃ v, a.tmps[21]?.getD undef = v := ⟨_, rfl⟩
        obtain ⟨v22, h22⟩ : ∃ v, a.tmps[22]?.getD undef = v := ⟨_, rfl⟩
        obtain ⟨v23, h23⟩ : ∃ v, a.tmps[23]?.getD undef = v := ⟨_, rfl⟩
        obtain ⟨v24, h24⟩ : ∃ v, a.tmps[24]?.getD undef = v := ⟨_, rfl⟩
        simp only [putAll, e25, h17, h18, h19, h20, h21, h22, h23, h24, List.setIfInBounds_toArray, List.set_cons_zero, List.set_cons_succ] at he
        clear e25 h17 h18 h19 h20 h21 h22 h23 h24 hdef hsz hv hfr
        subst he
        have HSZ := Lib.hid (HS.out.trans hkz (fun _ _ e => e))
        clear hkz
        go_wp2
        go_roundw
        case rel => exact ⟨j + 1, by omega, by go_num, HT2, HSZ⟩
        case measure => simp [intOf]; omega
      · have HEQ : Hid (∀ wz, (Op.equalIn 10000 31 (.agg x.cells.toArray) (.agg y.cells.toArray)).run Try.prog wz = .ok false wz) := Lib.hid (fun wz => by rw [vote_equal x y HXO.out HYO.out, decide_eq_false hd])
        have HF : Hid (r = false) := Lib.hid (by rw [← HR.out]; exact decide_eq_false (fun e => hd (by have h1 := HX1.out; rw [e, HY1.out] at h1; exact (Option.some.inj h1).symm)))
        clear hd
        go_wp2
        refine wp_region_do [[], [], [0, 1], [2], [], [], [4, 5], [6], [3, 7]]
          [some 17, some 18, some 19, some 20, some 21, some 22, some 23, some 24, some 25]
          [.is (.slice (some ⟨g, off, none⟩) n cap), .is (.int .i64 (j : Int)), .is (.pointer (some ⟨g, off + j * 37, none⟩)), .is (.agg x.cells.toArray), .is (.slice (some ⟨g2, off2, none⟩) n dcap), .is (.int .i64 (j : Int)), .is (.pointer (some ⟨g2, off2 + j * 37, none⟩)), .is (.agg y.cells.toArray), .is (.bool true)]
          6 _ _ 26 9 (by kernel_rfl) (by rfl) (by rfl) (by kernel_rfl) (by kernel_rfl) (by decide) ?_ ?_
        · refine ⟨?_, ?_, ?_, ?_, ?_, ?_, ?_, ?_, ?_, trivial⟩
          · intro a w' K hs' hdep hfr hK
            have f0 := hfr 0 (by decide)
            exact plan_do (by rfl) (plan_yield (i := 0) (V := fun _ _ v => v = (.slice (some ⟨g, off, none⟩) n cap : Value)) (.slice (some ⟨g, off, none⟩) n cap) (by go_simp) rfl hK)
          · intro a w' K hs' hdep hfr hK
            have f5 := hfr 5 (by decide)
            exact plan_do (by rfl) (plan_yield (i := 1) (V := fun _ _ v => v = (.int .i64 (j : Int) : Value)) (.int .i64 (j : Int)) (by go_simp) rfl hK)
          · intro a w' K hs' hdep hfr hK
            have e17 : a.tmps[17]?.getD undef = (.slice (some ⟨g, off, none⟩) n cap) := hdep 0 (by decide) 17 rfl
            have e18 : a.tmps[18]?.getD undef = (.int .i64 (j : Int)) := hdep 1 (by decide) 18 rfl
            have hin : (j : Int) < (n : Int) := by omega
            exact plan_do (by rfl) (plan_yield (i := 2) (V := fun _ _ v => v = (.pointer (some ⟨g, off + j * 37, none⟩) : Value)) (.pointer (some ⟨g, off + j * 37, none⟩)) (by go_simp) rfl hK)
          · intro a w' K hs' hdep hfr hK
            have e19 : a.tmps[19]?.getD undef = (.pointer (some ⟨g, off + j * 37, none⟩)) := hdep 2 (by decide) 19 rfl
            exact plan_do (by rfl) (wp_load_mid (P := Try.prog) 31 (.tmp 19) rfl g (off + j * 37) ((eval_tmp _ _).trans e19) x.cells _ (rangeAt_keep HRX.out hs' (fun _ e => e)) Try.underlying31 rfl HSX.out (hK _ _ (Keeps.refl _ _) rfl))
          · intro a w' K hs' hdep hfr hK
            have f1 := hfr 1 (by decide)
            exact plan_do (by rfl) (plan_yield (i := 4) (V := fun _ _ v => v = (.slice (some ⟨g2, off2, none⟩) n dcap : Value)) (.slice (some ⟨g2, off2, none⟩) n dcap) (by go_simp) rfl hK)
          · intro a w' K hs' hdep hfr hK
            have f5 := hfr 5 (by decide)
            exact plan_do (by rfl) (plan_yield (i := 5) (V := fun _ _ v => v = (.int .i64 (j : Int) : Value)) (.int .i64 (j : Int)) (by go_simp) rfl hK)
          · intro a w' K hs' hdep hfr hK
            have e21 : a.tmps[21]?.getD undef = (.slice (some ⟨g2, off2, none⟩) n dcap) := hdep 4 (by decide) 21 rfl
            have e22 : a.tmps[22]?.getD undef = (.int .i64 (j : Int)) := hdep 5 (by decide) 22 rfl
            have hin : (j : Int) < (n : Int) := by omega
            exact plan_do (by rfl) (plan_yield (i := 6) (V := fun _ _ v => v = (.pointer (some ⟨g2, off2 + j * 37, none⟩) : Value)) (.pointer (some ⟨g2, off2 + j * 37, none⟩)) (by go_simp) rfl hK)
          · intro a w' K hs' hdep hfr hK
            have e23 : a.tmps[23]?.getD undef = (.pointer (some ⟨g2, off2 + j * 37, none⟩)) := hdep 6 (by decide) 23 rfl
            exact plan_do (by rfl) (wp_load_mid (P := Try.prog) 31 (.tmp 23) rfl g2 (off2 + j * 37) ((eval_tmp _ _).trans e23) y.cells _ (rangeAt_keep HRY.out hs' (fun _ e => e)) Try.underlying31 rfl HSY.out (hK _ _ (Keeps.refl _ _) rfl))
          · intro a w' K hs' hdep hfr hK
            have e20 : a.tmps[20]?.getD undef = (.agg x.cells.toArray) := hdep 3 (by decide) 20 rfl
            have e24 : a.tmps[24]?.getD undef = (.agg y.cells.toArray) := hdep 7 (by decide) 24 rfl
            exact plan_do (by rfl) (plan_yield (i := 8) (V := fun _ _ v => v = (.bool true : Value)) (.bool true) (exec_neq_is (.tmp 20) (.tmp 24) 31 31 rfl x.cells.toArray y.cells.toArray false ((eval_tmp _ _).trans e20) ((eval_tmp _ _).trans e24) Try.voteGuard HEQ.out) rfl hK)
        intro a wz hkz hdef hsz hv hfr
        have e25 : a.tmps[25]?.getD undef = (.bool true) := hv 8 25 rfl
        have he := act_eq a _ [some 17, some 18, some 19, some 20, some 21, some 22, some 23, some 24, some 25] 26 rfl hsz hdef hfr (fun d => a.tmps[d]?.getD undef) (fun _ _ => rfl)
        obtain ⟨v17, h17⟩ : ∃ v, a.tmps[17]?.getD undef = v := ⟨_, rfl⟩
        obtain ⟨v18, h18⟩ : ∃ v, a.tmps[18]?.getD undef = v := ⟨_, rfl⟩
        obtain ⟨v19, h19⟩ : ∃ v, a.tmps[19]?.getD undef = v := ⟨_, rfl⟩
        obtain ⟨v20, h20⟩ : ∃ v, a.tmps[20]?.getD undef = v := ⟨_, rfl⟩
        obtain ⟨v21, h21⟩ : ∃ v, a.tmps[21]?.getD undef = v := ⟨_, rfl⟩
        obtain ⟨v22, h22⟩ : ∃ v, a.tmps[22]?.getD undef = v := ⟨_, rfl⟩
        obtain ⟨v23, h23⟩ : ∃ v, a.tmps[23]?.getD undef = v := ⟨_, rfl⟩
        obtain ⟨v24, h24⟩ : ∃ v, a.tmps[24]?.getD undef = v := ⟨_, rfl⟩
        simp only [putAll, e25, h17, h18, h19, h20, h21, h22, h23, h24, List.setIfInBounds_toArray, List.set_cons_zero, List.set_cons_succ] at he
        clear e25 h17 h18 h19 h20 h21 h22 h23 h24 hdef hsz hv hfr
        subst he
        have HSZ := Lib.hid (HS.out.trans hkz (fun _ _ e => e))
        clear hkz
        go_wp2
        go_ret
        exact ⟨by rw [HF.out]; rfl, HSZ.out⟩
    · obtain rfl : j = n := by omega
      have HF : Hid (r = true) := Lib.hid (by
        have h1 := HT.out
        rw [List.take_of_length_le (by rw [HN.out]; exact Nat.le_refl _), List.take_of_length_le (by rw [HM.out]; exact Nat.le_refl _)] at h1
        rw [← HR.out]; exact decide_eq_true h1)
      have hjn : ¬ (j : Int) < (j : Int) := by omega
      go_wp2
      go_ret
      exact ⟨by rw [HF.out]; rfl, HS.out⟩
end Go.Proofs.Yteidjpnmfmcfkaa
