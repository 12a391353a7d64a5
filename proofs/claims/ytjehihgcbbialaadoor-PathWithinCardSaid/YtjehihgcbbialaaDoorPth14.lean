/- The walk of PathWithin. -/
import Derived.Test.YtjehihgcbbialaaDoorPth6
import Derived.Test.YtjehihgcbbialaaDoorPth21
namespace Go.Proofs.YtjehihgcbbialaaDoor
open Go.RowKit
set_option linter.unusedVariables false

theorem within_goes {a b c : List UInt8} (h : withinB a b = true) (h2 : withinB b c = true) : withinB a c = true := by
  unfold withinB at *
  simp only [Bool.and_eq_true, decide_eq_true_eq] at *
  obtain ⟨⟨⟨h3, h4⟩, h5⟩, h6⟩ := h
  obtain ⟨⟨⟨_, h8⟩, h9⟩, h10⟩ := h2
  refine ⟨⟨⟨h3, h8⟩, by omega⟩, ?_⟩
  rw [h10, List.take_take, Nat.min_eq_left h5] at h6
  exact h6
theorem within_self (a : List UInt8) : withinB a a = (namesOf a).isSome := by
  unfold withinB
  simp
set_option maxRecDepth 100000 in
set_option maxHeartbeats 12800000 in
theorem withins_any (s t u : ByteArray) (w : World) (he : Env w) : Calls Tryd.prog 4 #[.string s, .string t, .string u] w fun e w' => e = .returned (.bool true) ∧ Same w w' := by
  have HE0 := Lib.hid he
  have HST := Lib.hid (fun w he => within_any s t w he)
  have HRT := Lib.hid (fun w => refWithin_any s t w)
  have HTU := Lib.hid (fun w he => within_any t u w he)
  have HSU := Lib.hid (fun w he => within_any s u w he)
  have HPP := Lib.hid (fun w he => within_any s s w he)
  have HCP := Lib.hid (fun w he => check_any s w he)
  rw [within_self] at HPP
  have HGO : Hid (withinB (sb s) (sb t) = true → withinB (sb t) (sb u) = true → withinB (sb s) (sb u) = true) := Lib.hid within_goes
  generalize withinB (sb s) (sb t) = a at HST HRT HGO
  generalize withinB (sb t) (sb u) = b at HTU HGO
  generalize withinB (sb s) (sb u) = c at HSU HGO
  generalize (namesOf (sb s)).isSome = p at HPP HCP
  clear he
  go_enter Tryd.func4, Tryd.ntmps4
  go_wp2_with fail
  ((with_reducible refine (speaks9 _ HE0.out).mono ?_); rintro e w1 ⟨rfl, hk1⟩)
  have HK1 := Lib.hid hk1
  have HE1 := Lib.hid (HE0.out.same hk1)
  clear hk1
  by_cases h1 : (300 : Int) < (s.size : Int)
  · go_wp2
    go_ret
    exact ⟨rfl, HK1.out⟩
  have hd1 : decide ((300 : Int) < (s.size : Int)) = false := decide_eq_false h1
  clear h1
  by_cases h1 : (300 : Int) < (t.size : Int)
  · go_wp2
    go_ret
    exact ⟨rfl, HK1.out⟩
  have hd2 : decide ((300 : Int) < (t.size : Int)) = false := decide_eq_false h1
  clear h1
  by_cases h1 : (300 : Int) < (u.size : Int)
  · go_wp2
    go_ret
    exact ⟨rfl, HK1.out⟩
  have hd3 : decide ((300 : Int) < (u.size : Int)) = false := decide_eq_false h1
  clear h1
  cases a with
  | false =>
    go_wp2_with fail
    ((with_reducible refine (HST.out _ HE1.out).mono ?_); rintro e w2 ⟨rfl, hk2⟩)
    have HK2 := Lib.hid (HK1.out.trans hk2 (fun _ _ e => e))
    have HE2 := Lib.hid (HE1.out.same hk2)
    clear hk2
    go_wp2_with fail
    ((with_reducible refine (HRT.out _).mono ?_); rintro e w3 ⟨rfl, hk3⟩)
    have HK3 := Lib.hid (HK2.out.trans hk3 (fun _ _ e => e))
    have HE3 := Lib.hid (HE2.out.same hk3)
    clear hk3
    go_wp2_with fail
    ((with_reducible refine (HST.out _ HE3.out).mono ?_); rintro e w4 ⟨rfl, hk4⟩)
    have HK4 := Lib.hid (HK3.out.trans hk4 (fun _ _ e => e))
    have HE4 := Lib.hid (HE3.out.same hk4)
    clear hk4
    cases p with
    | true =>
      go_wp2_with fail
      ((with_reducible refine (HPP.out _ HE4.out).mono ?_); rintro e w5 ⟨rfl, hk5⟩)
      have HK5 := Lib.hid (HK4.out.trans hk5 (fun _ _ e => e))
      have HE5 := Lib.hid (HE4.out.same hk5)
      clear hk5
      go_wp2_with fail
      ((with_reducible refine (HCP.out _ HE5.out).mono ?_); rintro e w6 ⟨rfl, hk6⟩)
      have HK6 := Lib.hid (HK5.out.trans hk6 (fun _ _ e => e))
      have HE6 := Lib.hid (HE5.out.same hk6)
      clear hk6
      go_wp2
      go_ret
      exact ⟨rfl, HK6.out⟩
    | false =>
      go_wp2_with fail
      ((with_reducible refine (HPP.out _ HE4.out).mono ?_); rintro e w5 ⟨rfl, hk5⟩)
      have HK5 := Lib.hid (HK4.out.trans hk5 (fun _ _ e => e))
      have HE5 := Lib.hid (HE4.out.same hk5)
      clear hk5
      go_wp2_with fail
      ((with_reducible refine (HCP.out _ HE5.out).mono ?_); rintro e w6 ⟨rfl, hk6⟩)
      have HK6 := Lib.hid (HK5.out.trans hk6 (fun _ _ e => e))
      have HE6 := Lib.hid (HE5.out.same hk6)
      clear hk6
      go_wp2
      go_ret
      exact ⟨rfl, HK6.out⟩
  | true =>
    go_wp2_with fail
    ((with_reducible refine (HST.out _ HE1.out).mono ?_); rintro e w2 ⟨rfl, hk2⟩)
    have HK2 := Lib.hid (HK1.out.trans hk2 (fun _ _ e => e))
    have HE2 := Lib.hid (HE1.out.same hk2)
    clear hk2
    go_wp2_with fail
    ((with_reducible refine (HRT.out _).mono ?_); rintro e w3 ⟨rfl, hk3⟩)
    have HK3 := Lib.hid (HK2.out.trans hk3 (fun _ _ e => e))
    have HE3 := Lib.hid (HE2.out.same hk3)
    clear hk3
    go_wp2_with fail
    ((with_reducible refine (HST.out _ HE3.out).mono ?_); rintro e w4 ⟨rfl, hk4⟩)
    have HK4 := Lib.hid (HK3.out.trans hk4 (fun _ _ e => e))
    have HE4 := Lib.hid (HE3.out.same hk4)
    clear hk4
    cases b with
    | false =>
      go_wp2_with fail
      ((with_reducible refine (HTU.out _ HE4.out).mono ?_); rintro e w5 ⟨rfl, hk5⟩)
      have HK5 := Lib.hid (HK4.out.trans hk5 (fun _ _ e => e))
      have HE5 := Lib.hid (HE4.out.same hk5)
      clear hk5
      cases p with
      | true =>
        go_wp2_with fail
        ((with_reducible refine (HPP.out _ HE5.out).mono ?_); rintro e w6 ⟨rfl, hk6⟩)
        have HK6 := Lib.hid (HK5.out.trans hk6 (fun _ _ e => e))
        have HE6 := Lib.hid (HE5.out.same hk6)
        clear hk6
        go_wp2_with fail
        ((with_reducible refine (HCP.out _ HE6.out).mono ?_); rintro e w7 ⟨rfl, hk7⟩)
        have HK7 := Lib.hid (HK6.out.trans hk7 (fun _ _ e => e))
        have HE7 := Lib.hid (HE6.out.same hk7)
        clear hk7
        go_wp2
        go_ret
        exact ⟨rfl, HK7.out⟩
      | false =>
        go_wp2_with fail
        ((with_reducible refine (HPP.out _ HE5.out).mono ?_); rintro e w6 ⟨rfl, hk6⟩)
        have HK6 := Lib.hid (HK5.out.trans hk6 (fun _ _ e => e))
        have HE6 := Lib.hid (HE5.out.same hk6)
        clear hk6
        go_wp2_with fail
        ((with_reducible refine (HCP.out _ HE6.out).mono ?_); rintro e w7 ⟨rfl, hk7⟩)
        have HK7 := Lib.hid (HK6.out.trans hk7 (fun _ _ e => e))
        have HE7 := Lib.hid (HE6.out.same hk7)
        clear hk7
        go_wp2
        go_ret
        exact ⟨rfl, HK7.out⟩
    | true =>
      have hc : c = true := HGO.out (by simp) (by simp)
      subst hc
      go_wp2_with fail
      ((with_reducible refine (HTU.out _ HE4.out).mono ?_); rintro e w5 ⟨rfl, hk5⟩)
      have HK5 := Lib.hid (HK4.out.trans hk5 (fun _ _ e => e))
      have HE5 := Lib.hid (HE4.out.same hk5)
      clear hk5
      go_wp2_with fail
      ((with_reducible refine (HSU.out _ HE5.out).mono ?_); rintro e w6 ⟨rfl, hk6⟩)
      have HK6 := Lib.hid (HK5.out.trans hk6 (fun _ _ e => e))
      have HE6 := Lib.hid (HE5.out.same hk6)
      clear hk6
      cases p with
      | true =>
        go_wp2_with fail
        ((with_reducible refine (HPP.out _ HE6.out).mono ?_); rintro e w7 ⟨rfl, hk7⟩)
        have HK7 := Lib.hid (HK6.out.trans hk7 (fun _ _ e => e))
        have HE7 := Lib.hid (HE6.out.same hk7)
        clear hk7
        go_wp2_with fail
        ((with_reducible refine (HCP.out _ HE7.out).mono ?_); rintro e w8 ⟨rfl, hk8⟩)
        have HK8 := Lib.hid (HK7.out.trans hk8 (fun _ _ e => e))
        have HE8 := Lib.hid (HE7.out.same hk8)
        clear hk8
        go_wp2
        go_ret
        exact ⟨rfl, HK8.out⟩
      | false =>
        go_wp2_with fail
        ((with_reducible refine (HPP.out _ HE6.out).mono ?_); rintro e w7 ⟨rfl, hk7⟩)
        have HK7 := Lib.hid (HK6.out.trans hk7 (fun _ _ e => e))
        have HE7 := Lib.hid (HE6.out.same hk7)
        clear hk7
        go_wp2_with fail
        ((with_reducible refine (HCP.out _ HE7.out).mono ?_); rintro e w8 ⟨rfl, hk8⟩)
        have HK8 := Lib.hid (HK7.out.trans hk8 (fun _ _ e => e))
        have HE8 := Lib.hid (HE7.out.same hk8)
        clear hk8
        go_wp2
        go_ret
        exact ⟨rfl, HK8.out⟩
end Go.Proofs.YtjehihgcbbialaaDoor
