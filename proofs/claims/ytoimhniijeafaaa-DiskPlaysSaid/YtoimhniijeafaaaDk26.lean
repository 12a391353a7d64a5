/- The document's own Flush: the walk. -/
import Derived.Test.YtoimhniijeafaaaDk25
import Derived.Test.YtoimhniijeafaaaPlan4
namespace Go.Proofs.Ytoimhniijeafaaa
open Go.RowKit
set_option linter.unusedVariables false

set_option maxRecDepth 100000 in
set_option maxHeartbeats 6400000 in
theorem rk_flush_no (w : World) (F : Nat → Prop) (D : Nat) (s : DSt) (h : Rk F w D s) (hlf : s.lim = true → 0 ≤ s.left ∧ s.left ≤ 9223372036854775807) (hn : s.down = true ∨ s.power = false) :
    Calls Try.prog 15 #[.pointer (some ⟨D, 0, none⟩)] w fun e w' => e = .returned (.int .i64 s.fcode) ∧ Rk F w' D s.flushed ∧ Keeps (fun k => k = D) w w' := by
  have huse := rk_use w F D s h hlf
  have HRK := Lib.hid h
  obtain ⟨lv, ov, L, O, h0, _, e1, e2⟩ := h
  obtain ⟨c0, c1, c2, c3⟩ := cell_of_four' h0.obj
  cases hd : s.down with
  | true =>
    have e1 : s.fcode = 3 := by unfold DSt.fcode; rw [if_pos hd]
    have e2 : s.flushed = s := by unfold DSt.flushed; rw [if_pos hd]
    rw [e1, e2]
    rw [hd] at c3
    clear h0 huse hn hd e1 e2 c0 c1 c2
    go_enter Try.func15, Try.ntmps15
    go_wp2
    go_ret
    exact ⟨rfl, HRK.out, Keeps.refl _ _⟩
  | false =>
    have hp : s.power = false := by simpa [hd] using hn
    have e1 : s.fcode = 3 := by unfold DSt.fcode; rw [if_neg (by simp [hd]), if_neg (by simp [hp])]
    have e2 : s.flushed = s.spent := by unfold DSt.flushed; rw [if_neg (by simp [hd]), if_neg (by simp [hp])]
    rw [e1, e2]
    rw [hd] at c3
    rw [hp] at huse
    have HU := Lib.hid huse
    clear h0 huse hn hd e1 e2 c0 c1 c2 hp HRK
    go_enter Try.func15, Try.ntmps15
    go_wp2_with fail
    refine HU.out.mono ?_
    rintro e w1 ⟨rfl, hk1, hkeep1⟩
    have HK1 := Lib.hid hk1
    have HE1 := Lib.hid hkeep1
    clear hk1 hkeep1
    go_wp2
    go_ret
    exact ⟨rfl, HK1.out, HE1.out⟩

set_option maxRecDepth 100000 in
set_option maxHeartbeats 6400000 in
theorem rk_flush_yes (w : World) (F : Nat → Prop) (D : Nat) (s : DSt) (h : Rk F w D s) (hlf : s.lim = true → 0 ≤ s.left ∧ s.left ≤ 9223372036854775807) (hd : s.down = false) (hp : s.power = true) (hO : s.O.length ≤ 100000) :
    Calls Try.prog 15 #[.pointer (some ⟨D, 0, none⟩)] w fun e w' => ∃ F', e = .returned (.int .i64 s.fcode) ∧ Rk F' w' D s.flushed ∧ Keeps F w w' ∧ Grow F F' w := by
  have huse := rk_use w F D s h hlf
  have HFL := Lib.hid (h.lt)
  obtain ⟨lv0, ov0, L0, O0, h0, hF0, _, _⟩ := h
  obtain ⟨c0, c1, c2, c3⟩ := cell_of_four' h0.obj
  have f1 : s.fcode = 0 := by unfold DSt.fcode; rw [if_neg (by simp [hd]), if_pos hp]
  have f2 : s.flushed = { s.spent with L := applied s.L s.O, O := [] } := by unfold DSt.flushed; rw [if_neg (by simp [hd]), if_pos hp]
  rw [f1, f2]
  rw [hd] at c3
  rw [hp] at huse
  have HU := Lib.hid huse
  have HFD : Hid (F D) := Lib.hid (by rw [hF0]; exact .inl rfl)
  have HOL := Lib.hid hO
  clear h0 hF0 huse hd f1 f2 c0 c1 c2 hp hO
  go_enter Try.func15, Try.ntmps15
  go_wp2_with fail
  refine HU.out.mono ?_
  rintro e w1 ⟨rfl, hk1, hkeep1⟩
  obtain ⟨lv, ov, L, O, h1, hF, e1, e2⟩ := hk1
  have hsp : s.spent.L = s.L ∧ s.spent.O = s.O := by unfold DSt.spent; split <;> (try split) <;> exact ⟨rfl, rfl⟩
  rw [hsp.1] at e1
  rw [hsp.2] at e2
  have hO2 : O.length ≤ 100000 := by rw [← e2, List.length_map] at HOL; exact HOL.out
  obtain ⟨rl, hrl⟩ : ∃ rl, s.spent.rleft = rl := ⟨_, rfl⟩
  obtain ⟨rd, hrd⟩ : ∃ rd, s.spent.down = rd := ⟨_, rfl⟩
  rw [hrl, hrd] at h1
  have HRL := Lib.hid hrl
  have HRD := Lib.hid hrd
  have H1 := Lib.hid h1
  have E1 := Lib.hid e1
  have E2 := Lib.hid e2
  have HF := Lib.hid hF
  have HK1 := Lib.hid hkeep1
  obtain ⟨oo, oc, rfl, hoc, hof⟩ := h1.opn.form
  clear h1 e1 e2 hF hkeep1 hsp HU hrl hrd
  go_wp2
  go_loopw [3] (fun i wr => ∃ j : Nat, j ≤ O.length ∧ i = .int .i64 j ∧ RefAt wr D lv (.slice oo O.length oc) (came L (O.take j)) O rl rd ∧ Keeps (fun k => lv.ownBlock = some k) w1 wr) (fun i _ => O.length - (intOf i).toNat)
  case atStart => exact ⟨0, by omega, rfl, H1.out, Keeps.refl _ _⟩
  case round =>
    obtain ⟨j, hj, rfl, hr, hkp⟩ := hrel
    have HR := Lib.hid hr
    have HKP := Lib.hid hkp
    have c1 := (cell_of_four' hr.obj).2.1
    clear hr hkp
    by_cases hlt : j < O.length
    · have hlt2 : (j : Int) < (O.length : Int) := by omega
      have HJI : Hid ((j : Int) < (O.length : Int)) := Lib.hid hlt2
      obtain ⟨go, oc', hov, hra⟩ := HR.out.opn.at (fun x _ => ocells_length x) j hlt
      simp only [Value.slice.injEq] at hov
      obtain ⟨rfl, _, rfl⟩ := hov
      have hxo := (HR.out.rowO _ (List.getElem_mem hlt))
      have HXM := Lib.hid (List.getElem_mem hlt)
      have HSN := Lib.hid (came_snoc L O j hlt)
      generalize O[j] = x at *
      have hxl := hxo.2
      rw [came_len] at hxl
      obtain ⟨gl, lc, hlv, _⟩ := HR.out.las.form (by rw [came_len]; omega)
      rw [came_len] at hlv
      subst hlv
      have hxi : (x.1 : Int) < (L.length : Int) := by omega
      obtain ⟨gx, cx, hvx⟩ := hxo.1.slice
      have HVX := Lib.hid hvx
      have HC0 : Hid (∀ w', Same wr w' → w'.cell? ⟨D, 0, none⟩ = some (.slice (some ⟨gl, 0, none⟩) L.length lc)) := Lib.hid (fun w' k => (HR.out.obj.keep k (fun e => e)).cell (i := 0) rfl)
      have HC1 : Hid (∀ w', Same wr w' → w'.cell? ⟨D, 1, none⟩ = some (.slice (some ⟨go, 0, none⟩) O.length oc)) := Lib.hid (fun w' k => (HR.out.obj.keep k (fun e => e)).cell (i := 1) rfl)
      have HCX : Hid (∀ w', Same wr w' → w'.cell? ⟨go, j * 2, none⟩ = some (.int .i64 (x.1 : Nat)) ∧ w'.cell? ⟨go, j * 2 + 1, none⟩ = some (.slice (some ⟨gx, 0, none⟩) 512 cx)) := Lib.hid (fun w' k => by
        have h := rangeAt_keep hra k (fun _ e => e)
        exact ⟨h 0 _ rfl, by rw [← hvx]; exact h 1 _ rfl⟩)
      clear hra hxo hvx
      go_wp2_with fail
      refine wp_region_tail [[], [0], [1], [2], [], [4], [5], [6], [], [7, 8], [9], [10], [], [12], [13], [14], [], [15, 16], [17], [18], [3, 11, 0, 1, 2, 3, 4, 5, 6, 7, 8, 9, 10, 11, 12, 13, 14, 15, 16, 17, 18, 19], [20, 19, 0, 1, 2, 3, 4, 5, 6, 7, 8, 9, 10, 11, 12, 13, 14, 15, 16, 17, 18, 19]]
        [some 20, some 21, some 22, some 23, some 24, some 25, some 26, some 27, some 28, some 29, some 30, some 31, some 32, some 33, some 34, some 35, some 36, some 37, some 38, some 39, some 40, none]
        [.is (.pointer (some ⟨D, 0, none⟩)), .is (.pointer (some ⟨D, 0, none⟩)), .is (.pointer (some ⟨D, 0, none⟩)), .is (.slice (some ⟨gl, 0, none⟩) L.length lc), .is (.pointer (some ⟨D, 0, none⟩)), .is (.pointer (some ⟨D, 0, none⟩)), .is (.pointer (some ⟨D, 1, none⟩)), .is (.slice (some ⟨go, 0, none⟩) O.length oc), .is (.int .i64 (j : Nat)), .is (.pointer (some ⟨go, j * 2, none⟩)), .is (.pointer (some ⟨go, j * 2, none⟩)), .is (.int .i64 (x.1 : Nat)), .is (.pointer (some ⟨D, 0, none⟩)), .is (.pointer (some ⟨D, 0, none⟩)), .is (.pointer (some ⟨D, 1, none⟩)), .is (.slice (some ⟨go, 0, none⟩) O.length oc), .is (.int .i64 (j : Nat)), .is (.pointer (some ⟨go, j * 2, none⟩)), .is (.pointer (some ⟨go, j * 2 + 1, none⟩)), .is (.slice (some ⟨gx, 0, none⟩) 512 cx)]
        (fun _ => False) [] (fun _ _ => True) 8 _ _ 44 20 22 (by kernel_rfl) (by rfl) (by rfl) (by omega) (by kernel_rfl) (by kernel_rfl) (by decide) (by decide) (fun _ e => e.elim) trivial (fun _ _ _ h _ => h) ?_ ?_
      · refine ⟨?_, ?_, ?_, ?_, ?_, ?_, ?_, ?_, ?_, ?_, ?_, ?_, ?_, ?_, ?_, ?_, ?_, ?_, ?_, ?_, trivial⟩
        · intro a w' K hk hdep hfr hK
          have f := hfr 0 (by decide)
          exact plan_do (by rfl) (plan_yield (i := 0) (V := fun _ _ v => v = (.pointer (some ⟨D, 0, none⟩) : Value)) (.pointer (some ⟨D, 0, none⟩)) (by go_simp) rfl hK)
        · intro a w' K hk hdep hfr hK
          have e20 : a.tmps[20]?.getD undef = (.pointer (some ⟨D, 0, none⟩)) := hdep 0 (by decide) 20 rfl
          exact plan_do (by rfl) (plan_yield (i := 1) (V := fun _ _ v => v = (.pointer (some ⟨D, 0, none⟩) : Value)) (.pointer (some ⟨D, 0, none⟩)) (by go_simp) rfl hK)
        · intro a w' K hk hdep hfr hK
          have e21 : a.tmps[21]?.getD undef = (.pointer (some ⟨D, 0, none⟩)) := hdep 1 (by decide) 21 rfl
          exact plan_do (by rfl) (plan_yield (i := 2) (V := fun _ _ v => v = (.pointer (some ⟨D, 0, none⟩) : Value)) (.pointer (some ⟨D, 0, none⟩)) (by go_simp) rfl hK)
        · intro a w' K hk hdep hfr hK
          have e22 : a.tmps[22]?.getD undef = (.pointer (some ⟨D, 0, none⟩)) := hdep 2 (by decide) 22 rfl
          have cl := HC0.out w' hk
          exact plan_do (by rfl) (plan_yield (i := 3) (V := fun _ _ v => v = (.slice (some ⟨gl, 0, none⟩) L.length lc : Value)) (.slice (some ⟨gl, 0, none⟩) L.length lc) (by go_simp) rfl hK)
        · intro a w' K hk hdep hfr hK
          have f := hfr 0 (by decide)
          exact plan_do (by rfl) (plan_yield (i := 4) (V := fun _ _ v => v = (.pointer (some ⟨D, 0, none⟩) : Value)) (.pointer (some ⟨D, 0, none⟩)) (by go_simp) rfl hK)
        · intro a w' K hk hdep hfr hK
          have e24 : a.tmps[24]?.getD undef = (.pointer (some ⟨D, 0, none⟩)) := hdep 4 (by decide) 24 rfl
          exact plan_do (by rfl) (plan_yield (i := 5) (V := fun _ _ v => v = (.pointer (some ⟨D, 0, none⟩) : Value)) (.pointer (some ⟨D, 0, none⟩)) (by go_simp) rfl hK)
        · intro a w' K hk hdep hfr hK
          have e25 : a.tmps[25]?.getD undef = (.pointer (some ⟨D, 0, none⟩)) := hdep 5 (by decide) 25 rfl
          exact plan_do (by rfl) (plan_yield (i := 6) (V := fun _ _ v => v = (.pointer (some ⟨D, 1, none⟩) : Value)) (.pointer (some ⟨D, 1, none⟩)) (by go_simp) rfl hK)
        · intro a w' K hk hdep hfr hK
          have e26 : a.tmps[26]?.getD undef = (.pointer (some ⟨D, 1, none⟩)) := hdep 6 (by decide) 26 rfl
          have cl := HC1.out w' hk
          exact plan_do (by rfl) (plan_yield (i := 7) (V := fun _ _ v => v = (.slice (some ⟨go, 0, none⟩) O.length oc : Value)) (.slice (some ⟨go, 0, none⟩) O.length oc) (by go_simp) rfl hK)
        · intro a w' K hk hdep hfr hK
          have f := hfr 3 (by decide)
          exact plan_do (by rfl) (plan_yield (i := 8) (V := fun _ _ v => v = (.int .i64 (j : Nat) : Value)) (.int .i64 (j : Nat)) (by go_simp) rfl hK)
        · intro a w' K hk hdep hfr hK
          have e27 : a.tmps[27]?.getD undef = (.slice (some ⟨go, 0, none⟩) O.length oc) := hdep 7 (by decide) 27 rfl
          have e28 : a.tmps[28]?.getD undef = (.int .i64 (j : Nat)) := hdep 8 (by decide) 28 rfl
          have hj := HJI.out
          exact plan_do (by rfl) (plan_yield (i := 9) (V := fun _ _ v => v = (.pointer (some ⟨go, j * 2, none⟩) : Value)) (.pointer (some ⟨go, j * 2, none⟩)) (by go_simp) rfl hK)
        · intro a w' K hk hdep hfr hK
          have e29 : a.tmps[29]?.getD undef = (.pointer (some ⟨go, j * 2, none⟩)) := hdep 9 (by decide) 29 rfl
          exact plan_do (by rfl) (plan_yield (i := 10) (V := fun _ _ v => v = (.pointer (some ⟨go, j * 2, none⟩) : Value)) (.pointer (some ⟨go, j * 2, none⟩)) (by go_simp) rfl hK)
        · intro a w' K hk hdep hfr hK
          have e30 : a.tmps[30]?.getD undef = (.pointer (some ⟨go, j * 2, none⟩)) := hdep 10 (by decide) 30 rfl
          have cl := (HCX.out w' hk).1
          exact plan_do (by rfl) (plan_yield (i := 11) (V := fun _ _ v => v = (.int .i64 (x.1 : Nat) : Value)) (.int .i64 (x.1 : Nat)) (by go_simp) rfl hK)
        · intro a w' K hk hdep hfr hK
          have f := hfr 0 (by decide)
          exact plan_do (by rfl) (plan_yield (i := 12) (V := fun _ _ v => v = (.pointer (some ⟨D, 0, none⟩) : Value)) (.pointer (some ⟨D, 0, none⟩)) (by go_simp) rfl hK)
        · intro a w' K hk hdep hfr hK
          have e32 : a.tmps[32]?.getD undef = (.pointer (some ⟨D, 0, none⟩)) := hdep 12 (by decide) 32 rfl
          exact plan_do (by rfl) (plan_yield (i := 13) (V := fun _ _ v => v = (.pointer (some ⟨D, 0, none⟩) : Value)) (.pointer (some ⟨D, 0, none⟩)) (by go_simp) rfl hK)
        · intro a w' K hk hdep hfr hK
          have e33 : a.tmps[33]?.getD undef = (.pointer (some ⟨D, 0, none⟩)) := hdep 13 (by decide) 33 rfl
          exact plan_do (by rfl) (plan_yield (i := 14) (V := fun _ _ v => v = (.pointer (some ⟨D, 1, none⟩) : Value)) (.pointer (some ⟨D, 1, none⟩)) (by go_simp) rfl hK)
        · intro a w' K hk hdep hfr hK
          have e34 : a.tmps[34]?.getD undef = (.pointer (some ⟨D, 1, none⟩)) := hdep 14 (by decide) 34 rfl
          have cl := HC1.out w' hk
          exact plan_do (by rfl) (plan_yield (i := 15) (V := fun _ _ v => v = (.slice (some ⟨go, 0, none⟩) O.length oc : Value)) (.slice (some ⟨go, 0, none⟩) O.length oc) (by go_simp) rfl hK)
        · intro a w' K hk hdep hfr hK
          have f := hfr 3 (by decide)
          exact plan_do (by rfl) (plan_yield (i := 16) (V := fun _ _ v => v = (.int .i64 (j : Nat) : Value)) (.int .i64 (j : Nat)) (by go_simp) rfl hK)
        · intro a w' K hk hdep hfr hK
          have e35 : a.tmps[35]?.getD undef = (.slice (some ⟨go, 0, none⟩) O.length oc) := hdep 15 (by decide) 35 rfl
          have e36 : a.tmps[36]?.getD undef = (.int .i64 (j : Nat)) := hdep 16 (by decide) 36 rfl
          have hj := HJI.out
          exact plan_do (by rfl) (plan_yield (i := 17) (V := fun _ _ v => v = (.pointer (some ⟨go, j * 2, none⟩) : Value)) (.pointer (some ⟨go, j * 2, none⟩)) (by go_simp) rfl hK)
        · intro a w' K hk hdep hfr hK
          have e37 : a.tmps[37]?.getD undef = (.pointer (some ⟨go, j * 2, none⟩)) := hdep 17 (by decide) 37 rfl
          exact plan_do (by rfl) (plan_yield (i := 18) (V := fun _ _ v => v = (.pointer (some ⟨go, j * 2 + 1, none⟩) : Value)) (.pointer (some ⟨go, j * 2 + 1, none⟩)) (by go_simp) rfl hK)
        · intro a w' K hk hdep hfr hK
          have e38 : a.tmps[38]?.getD undef = (.pointer (some ⟨go, j * 2 + 1, none⟩)) := hdep 18 (by decide) 38 rfl
          have cl := (HCX.out w' hk).2
          exact plan_do (by rfl) (plan_yield (i := 19) (V := fun _ _ v => v = (.slice (some ⟨gx, 0, none⟩) 512 cx : Value)) (.slice (some ⟨gx, 0, none⟩) 512 cx) (by go_simp) rfl hK)
      intro a w3 hk hdef hsz hv hfr _
      have e23 : a.tmps[23]?.getD undef = .slice (some ⟨gl, 0, none⟩) L.length lc := hv 3 23 (by omega) rfl
      have e31 : a.tmps[31]?.getD undef = .int .i64 (x.1 : Nat) := hv 11 31 (by omega) rfl
      have e39 : a.tmps[39]?.getD undef = .slice (some ⟨gx, 0, none⟩) 512 cx := hv 19 39 (by omega) rfl
      have he := act_eq a _ [some 20, some 21, some 22, some 23, some 24, some 25, some 26, some 27, some 28, some 29, some 30, some 31, some 32, some 33, some 34, some 35, some 36, some 37, some 38, some 39, some 40, none] 44 rfl hsz hdef hfr (fun d => a.tmps[d]?.getD undef) (fun _ _ => rfl)
      obtain ⟨v20, h20⟩ : ∃ v, a.tmps[20]?.getD undef = v := ⟨_, rfl⟩
      obtain ⟨v21, h21⟩ : ∃ v, a.tmps[21]?.getD undef = v := ⟨_, rfl⟩
      obtain ⟨v22, h22⟩ : ∃ v, a.tmps[22]?.getD undef = v := ⟨_, rfl⟩
      obtain ⟨v24, h24⟩ : ∃ v, a.tmps[24]?.getD undef = v := ⟨_, rfl⟩
      obtain ⟨v25, h25⟩ : ∃ v, a.tmps[25]?.getD undef = v := ⟨_, rfl⟩
      obtain ⟨v26, h26⟩ : ∃ v, a.tmps[26]?.getD undef = v := ⟨_, rfl⟩
      obtain ⟨v27, h27⟩ : ∃ v, a.tmps[27]?.getD undef = v := ⟨_, rfl⟩
      obtain ⟨v28, h28⟩ : ∃ v, a.tmps[28]?.getD undef = v := ⟨_, rfl⟩
      obtain ⟨v29, h29⟩ : ∃ v, a.tmps[29]?.getD undef = v := ⟨_, rfl⟩
      obtain ⟨v30, h30⟩ : ∃ v, a.tmps[30]?.getD undef = v := ⟨_, rfl⟩
      obtain ⟨v32, h32⟩ : ∃ v, a.tmps[32]?.getD undef = v := ⟨_, rfl⟩
      obtain ⟨v33, h33⟩ : ∃ v, a.tmps[33]?.getD undef = v := ⟨_, rfl⟩
      obtain ⟨v34, h34⟩ : ∃ v, a.tmps[34]?.getD undef = v := ⟨_, rfl⟩
      obtain ⟨v35, h35⟩ : ∃ v, a.tmps[35]?.getD undef = v := ⟨_, rfl⟩
      obtain ⟨v36, h36⟩ : ∃ v, a.tmps[36]?.getD undef = v := ⟨_, rfl⟩
      obtain ⟨v37, h37⟩ : ∃ v, a.tmps[37]?.getD undef = v := ⟨_, rfl⟩
      obtain ⟨v38, h38⟩ : ∃ v, a.tmps[38]?.getD undef = v := ⟨_, rfl⟩
      obtain ⟨v40, h40⟩ : ∃ v, a.tmps[40]?.getD undef = v := ⟨_, rfl⟩
      simp only [putAll, h20, h21, h22, h24, h25, h26, h27, h28, h29, h30, h32, h33, h34, h35, h36, h37, h38, h40, e23, e31, e39, List.setIfInBounds_toArray, List.set_cons_zero, List.set_cons_succ] at he
      clear h20 h21 h22 h24 h25 h26 h27 h28 h29 h30 h32 h33 h34 h35 h36 h37 h38 h40 e23 e31 e39 hdef hsz hv hfr
      subst he
      have HR3 : Hid (RefAt w3 D (.slice (some ⟨gl, 0, none⟩) L.length lc) (.slice (some ⟨go, 0, none⟩) O.length oc) (came L (O.take j)) O rl rd) := Lib.hid (HR.out.keep hk (fun _ _ e => e))
      have hput := HR3.out.put (came_len _ _) x HXM.out
      rw [← HSN.out, HVX.out] at hput
      have HP := Lib.hid hput
      have cg : ∃ u, w3.cell? ⟨gl, x.1, none⟩ = some u := by
        have h := HR3.out.las.cells (g := gl) rfl x.1 _ (List.getElem?_eq_getElem (by rw [List.length_map, came_len]; exact hxl))
        have hadd : (⟨gl, 0, none⟩ : Addr).add x.1 = ⟨gl, x.1, none⟩ := by unfold Addr.add; split <;> simp_all
        rw [hadd] at h
        exact ⟨_, h⟩
      obtain ⟨u0, cg⟩ := cg
      have hlas := HR3.out.las
      rw [came_len] at hlas
      have fg := hlas.frozenAt x.1
      have HKP3 : Hid (Keeps (fun k => (Value.slice (some ⟨gl, 0, none⟩) L.length lc).ownBlock = some k) w1 w3) := Lib.hid (HKP.out.trans (hk.mono (fun _ _ e => e.elim)) (fun _ _ e => e))
      clear hk hput HCX HC0 HC1 c1 hlas
      go_wp2
      go_roundw
      case rel => exact ⟨j + 1, by omega, by go_num, HP.out.1, HKP3.out.trans HP.out.2 (fun k _ e => by rw [e]; rfl)⟩
      case measure => simp [intOf]; omega
    · have hlt2 : ¬ (j : Int) < (O.length : Int) := by omega
      obtain rfl : j = O.length := by omega
      have g1 := HR.out.obj.free 1
      obtain ⟨w4, hw4⟩ : ∃ w4, wr.setCell ⟨D, 1, none⟩ (.slice none 0 0) = w4 := ⟨_, rfl⟩
      have hk4 : Keeps (fun k => k = D) wr w4 := by rw [← hw4]; exact (Keeps.refl _ _).setCell _ _ (.inr rfl)
      have hr4 := HR.out
      rw [List.take_length] at hr4
      have hobj : Whole w4 D 62 [lv, .slice none 0 0, .int .i64 rl, .bool rd] := by rw [← hw4]; exact hr4.obj.set 1 _
      have HR4 : Hid (RefAt w4 D lv (.slice none 0 0) (came L O) [] rl rd) := Lib.hid
        ⟨hobj, own_keeps hk4 hr4.las (fun k e e2 => hr4.nl (by rw [e, e2])), World.ownsRow_nil _ _ _ _, fun p hp => (hr4.rowL p hp).keep hk4 (fun k e e2 => (hr4.sepL p hp k e).1 e2), fun o ho => by simp at ho, hr4.nl, by simp [Value.ownBlock], fun k _ => by simp [Value.ownBlock], fun p hp k e => ⟨(hr4.sepL p hp k e).1, (hr4.sepL p hp k e).2.1, by simp [Value.ownBlock]⟩, fun o ho => by simp at ho, hr4.few⟩
      have HKA : Hid (Keeps F w w4) := Lib.hid ((HK1.out.mono (fun k _ e => by rw [e]; exact HFD.out)).trans ((HKP.out.mono (S' := F) (fun k _ e => by rw [HF.out]; exact .inr (.inl e))).trans (hk4.mono (S' := F) (fun k _ e => by rw [e]; exact HFD.out)) (fun _ _ e => e)) (fun _ _ e => e))
      have HG : Hid (Grow F (FootR D lv (.slice none 0 0) (came L O) []) w) := Lib.hid (fun k e => by
        left
        rw [HF.out]
        rcases e with e | e | e | ⟨p, hp, e⟩ | ⟨o, ho, e⟩
        · exact .inl e
        · exact .inr (.inl e)
        · simp [Value.ownBlock] at e
        · rcases came_from O L p hp with h | ⟨o, ho, h⟩
          · exact .inr (.inr (.inr (.inl ⟨p, h, e⟩)))
          · exact .inr (.inr (.inr (.inr ⟨o, ho, by rw [h]; exact e⟩)))
        · simp at ho)
      have HSN : Hid ((came L O).map Prod.snd = applied s.L s.O) := Lib.hid (by rw [came_snd, E1.out, E2.out])
      have HRK : Hid (Rk (FootR D lv (.slice none 0 0) (came L O) []) w4 D { s.spent with L := applied s.L s.O, O := [] }) := Lib.hid ⟨lv, .slice none 0 0, came L O, [], by
        have h := HR4.out
        rw [← HRL.out, ← HRD.out] at h
        exact h, rfl, HSN.out, rfl⟩
      have HW4 := Lib.hid hw4
      clear hk4 hr4 hobj hw4 HR
      go_wp2
      go_ret
      rw [HW4.out]
      exact ⟨rfl, _, HRK.out, HKA.out, HG.out⟩
end Go.Proofs.Ytoimhniijeafaaa
