/- The walk of PathJoins. -/
import Derived.Test.YtjehihgcbbialaaDoorPth6
import Derived.Test.YtjehihgcbbialaaDoorPth7
namespace Go.Proofs.YtjehihgcbbialaaDoor
open Go.RowKit
set_option linter.unusedVariables false

set_option maxRecDepth 100000 in
set_option maxHeartbeats 12800000 in
theorem joins_any (s t : ByteArray) (w : World) (he : Env w) : Calls Tryd.prog 6 #[.string s, .string t] w fun e w' => e = .returned (.bool true) ∧ Same w w' := by
  have HE0 := Lib.hid he
  have HC := Lib.hid (fun w he => check_any s w he)
  clear he
  go_enter Tryd.func6, Tryd.ntmps6
  go_wp2_with fail
  ((with_reducible refine (speaks9 _ HE0.out).mono ?_); rintro e w1 ⟨rfl, hk1⟩)
  have HK1 := Lib.hid hk1
  have HE1 := Lib.hid (HE0.out.same hk1)
  clear hk1
  by_cases h1 : (200 : Int) < (s.size : Int)
  · go_wp2
    go_ret
    exact ⟨rfl, HK1.out⟩
  by_cases h2 : (200 : Int) < (t.size : Int)
  · go_wp2
    go_ret
    exact ⟨rfl, HK1.out⟩
  have h3 : (s.size : Int) ≤ 200 ∧ (t.size : Int) ≤ 200 := by omega
  have hd1 : decide ((200 : Int) < (s.size : Int)) = false := decide_eq_false h1
  have hd2 : decide ((200 : Int) < (t.size : Int)) = false := decide_eq_false h2
  clear h1 h2
  cases hn : namesOf (sb s) with
  | none =>
    rw [hn] at HC
    clear hn
    go_wp2_with fail
    ((with_reducible refine (HC.out _ HE1.out).mono ?_); rintro e w2 ⟨rfl, hk2⟩)
    have HK2 := Lib.hid (HK1.out.trans hk2 (fun _ _ e => e))
    have HE2 := Lib.hid (HE1.out.same hk2)
    clear hk2
    go_wp2
    go_ret
    exact ⟨rfl, HK2.out⟩
  | some l =>
    rw [hn] at HC
    have HNS := Lib.hid hn
    clear hn
    go_wp2_with fail
    ((with_reducible refine (HC.out _ HE1.out).mono ?_); rintro e w2 ⟨rfl, hk2⟩)
    have HK2 := Lib.hid (HK1.out.trans hk2 (fun _ _ e => e))
    have HE2 := Lib.hid (HE1.out.same hk2)
    clear hk2
    by_cases hs : sb s = [47]
    · have HS := Lib.hid hs
      have hsl : (s.toList == [47]) = true := by rw [toList_sb, hs]; rfl
      clear hs
      have HQ : Hid (sb (({ data := #[47] } : ByteArray) ++ t) = behind (sb s) (sb t)) := Lib.hid (by unfold behind; rw [if_pos HS.out]; simp [sb, ByteArray.data_append])
      have HCQ := Lib.hid (fun w he => check_any (({ data := #[47] } : ByteArray) ++ t) w he)
      rw [HQ.out] at HCQ
      have HNT := Lib.hid (fun w (_ : True) => name_any t w)
      have HQS : Hid (((behind (sb s) (sb t)).length : Int) = 1 + (t.size : Int)) := Lib.hid (by have h1 := sb_length s; have h2 := sb_length t; unfold behind; rw [if_pos HS.out]; simp only [List.length_cons]; omega)
      cases hnb : nameB (sb t) with
      | false =>
        rw [hnb] at HNT
        have HNB := Lib.hid hnb
        clear hnb
        go_wp2_with fail
        ((with_reducible refine (HNT.out _ trivial).mono ?_); rintro e w3 ⟨rfl, hk3⟩)
        have HK3 := Lib.hid (HK2.out.trans hk3 (fun _ _ e => e))
        have HE3 := Lib.hid (HE2.out.same hk3)
        clear hk3
        by_cases htz : t = ⟨#[]⟩
        · subst htz
          have hz : (namesOf (behind (sb s) (sb ⟨#[]⟩))).isSome = true := (behind_nothing HNS.out).trans (decide_eq_true HS.out)
          rw [hz] at HCQ
          clear hz
          go_wp2_with fail
          ((with_reducible refine (HCQ.out _ HE3.out).mono ?_); rintro e w4 ⟨rfl, hk4⟩)
          have HK4 := Lib.hid (HK3.out.trans hk4 (fun _ _ e => e))
          have HE4 := Lib.hid (HE3.out.same hk4)
          clear hk4
          go_wp2
          go_ret
          exact ⟨rfl, HK4.out⟩
        · have ht0 : (t.toList == []) = false := by rw [toList_sb]; have : sb t ≠ [] := fun e => htz (sb_inj (e.trans rfl)); simpa using this
          have HTN : Hid (sb t ≠ []) := Lib.hid (fun e => htz (sb_inj (e.trans rfl)))
          clear htz
          cases hm : namesOf (behind (sb s) (sb t)) with
          | none =>
            rw [hm] at HCQ
            clear hm
            go_wp2_with fail
            ((with_reducible refine (HCQ.out _ HE3.out).mono ?_); rintro e w4 ⟨rfl, hk4⟩)
            have HK4 := Lib.hid (HK3.out.trans hk4 (fun _ _ e => e))
            have HE4 := Lib.hid (HE3.out.same hk4)
            clear hk4
            go_wp2
            go_ret
            exact ⟨rfl, HK4.out⟩
          | some m =>
            have HLT := Lib.hid (behind_other HNS.out HNB.out HTN.out hm)
            have HSQ := Lib.hid (fun w he => pathSplit_any (({ data := #[47] } : ByteArray) ++ t) w he)
            have HSP := Lib.hid (fun w he => pathSplit_any s w he)
            have en : nl (sb s) = l := by unfold nl; rw [HNS.out]; rfl
            have em : nl (sb (({ data := #[47] } : ByteArray) ++ t)) = m := by unfold nl; rw [HQ.out, hm]; rfl
            have hl24 : l.length ≤ 24 := by rw [← en]; exact nl_len _
            have hm24 : m.length ≤ 24 := by rw [← em]; exact nl_len _
            rw [em] at HSQ
            rw [en] at HSP
            rw [hm] at HCQ
            clear hm en em
            obtain ⟨a, ha⟩ : ∃ a, l.length = a := ⟨_, rfl⟩
            obtain ⟨b, hb⟩ : ∃ a, m.length = a := ⟨_, rfl⟩
            rw [ha] at HSP HLT hl24
            rw [hb] at HSQ HLT hm24
            have hab : (a : Int) + 1 < (b : Int) := by have := HLT.out; omega
            clear ha hb
            go_wp2_with fail
            ((with_reducible refine (HCQ.out _ HE3.out).mono ?_); rintro e w4 ⟨rfl, hk4⟩)
            have HK4 := Lib.hid (HK3.out.trans hk4 (fun _ _ e => e))
            have HE4 := Lib.hid (HE3.out.same hk4)
            clear hk4
            go_wp2_with fail
            ((with_reducible refine (HSQ.out _ HE4.out).mono ?_); rintro e w5 ⟨ao5, rfl, hst5, ha5, hk5⟩)
            have HK5 := Lib.hid (HK4.out.trans hk5 (fun _ _ e => e))
            have HE5 := Lib.hid (HE4.out.same hk5)
            clear hst5 ha5 hk5
            go_wp2_with fail
            ((with_reducible refine (HSP.out _ HE5.out).mono ?_); rintro e w6 ⟨ao6, rfl, hst6, ha6, hk6⟩)
            have HK6 := Lib.hid (HK5.out.trans hk6 (fun _ _ e => e))
            have HE6 := Lib.hid (HE5.out.same hk6)
            clear hst6 ha6 hk6
            go_wp2
            go_ret
            exact ⟨rfl, HK6.out⟩
      | true =>
        rw [hnb] at HNT
        have HNB := Lib.hid hnb
        clear hnb
        go_wp2_with fail
        ((with_reducible refine (HNT.out _ trivial).mono ?_); rintro e w3 ⟨rfl, hk3⟩)
        have HK3 := Lib.hid (HK2.out.trans hk3 (fun _ _ e => e))
        have HE3 := Lib.hid (HE2.out.same hk3)
        clear hk3
        by_cases hqb : (24 : Int) < 1 + (t.size : Int)
        · have hm := behind_great HNS.out HNB.out (by have := HQS.out; omega)
          rw [hm] at HCQ
          clear hm
          go_wp2_with fail
          ((with_reducible refine (HCQ.out _ HE3.out).mono ?_); rintro e w4 ⟨rfl, hk4⟩)
          have HK4 := Lib.hid (HK3.out.trans hk4 (fun _ _ e => e))
          have HE4 := Lib.hid (HE3.out.same hk4)
          clear hk4
          go_wp2
          go_ret
          exact ⟨rfl, HK4.out⟩
        · have hm := behind_name HNS.out HNB.out (by have := HQS.out; omega)
          have en : nl (sb s) = l := by unfold nl; rw [HNS.out]; rfl
          have em : nl (sb (({ data := #[47] } : ByteArray) ++ t)) = l ++ [sb t] := by unfold nl; rw [HQ.out, hm]; rfl
          have hl24 : l.length ≤ 24 := by rw [← en]; exact nl_len _
          have HSQ := Lib.hid (fun w he => pathSplit_any (({ data := #[47] } : ByteArray) ++ t) w he)
          have HSP := Lib.hid (fun w he => pathSplit_any s w he)
          have HPQ := Lib.hid (fun w he => parent_any (({ data := #[47] } : ByteArray) ++ t) w he)
          have HBQ := Lib.hid (fun w he => base_any (({ data := #[47] } : ByteArray) ++ t) w he)
          have HWQ := Lib.hid (fun w he => within_any s (({ data := #[47] } : ByteArray) ++ t) w he)
          have ep : bsA (parentB (sb (({ data := #[47] } : ByteArray) ++ t))) = s := by unfold parentB; rw [em, if_neg (by simp), List.dropLast_concat, path_join HNS.out, bsA_sb]
          have eb : bsA (baseB (sb (({ data := #[47] } : ByteArray) ++ t))) = t := by unfold baseB; rw [em]; simp [bsA_sb]
          have ew : withinB (sb s) (sb (({ data := #[47] } : ByteArray) ++ t)) = true := by unfold withinB; rw [en, em, HQ.out, hm, HNS.out]; simp
          rw [em] at HSQ
          rw [en] at HSP
          rw [ep] at HPQ
          rw [eb] at HBQ
          rw [ew] at HWQ
          rw [hm] at HCQ
          have ln : (l ++ [sb t]).length = l.length + 1 := by simp
          rw [ln] at HSQ
          clear hm en em ep eb ew ln
          obtain ⟨a, ha⟩ : ∃ a, l.length = a := ⟨_, rfl⟩
          rw [ha] at HSP HSQ hl24
          clear ha
          go_wp2_with fail
          ((with_reducible refine (HCQ.out _ HE3.out).mono ?_); rintro e w4 ⟨rfl, hk4⟩)
          have HK4 := Lib.hid (HK3.out.trans hk4 (fun _ _ e => e))
          have HE4 := Lib.hid (HE3.out.same hk4)
          clear hk4
          go_wp2_with fail
          ((with_reducible refine (HPQ.out _ HE4.out).mono ?_); rintro e w5 ⟨rfl, hk5⟩)
          have HK5 := Lib.hid (HK4.out.trans hk5 (fun _ _ e => e))
          have HE5 := Lib.hid (HE4.out.same hk5)
          clear hk5
          go_wp2_with fail
          ((with_reducible refine (HBQ.out _ HE5.out).mono ?_); rintro e w6 ⟨rfl, hk6⟩)
          have HK6 := Lib.hid (HK5.out.trans hk6 (fun _ _ e => e))
          have HE6 := Lib.hid (HE5.out.same hk6)
          clear hk6
          go_wp2_with fail
          ((with_reducible refine (HWQ.out _ HE6.out).mono ?_); rintro e w7 ⟨rfl, hk7⟩)
          have HK7 := Lib.hid (HK6.out.trans hk7 (fun _ _ e => e))
          have HE7 := Lib.hid (HE6.out.same hk7)
          clear hk7
          go_wp2_with fail
          ((with_reducible refine (HSQ.out _ HE7.out).mono ?_); rintro e w8 ⟨ao8, rfl, hst8, ha8, hk8⟩)
          have HK8 := Lib.hid (HK7.out.trans hk8 (fun _ _ e => e))
          have HE8 := Lib.hid (HE7.out.same hk8)
          clear hst8 ha8 hk8
          go_wp2_with fail
          ((with_reducible refine (HSP.out _ HE8.out).mono ?_); rintro e w9 ⟨ao9, rfl, hst9, ha9, hk9⟩)
          have HK9 := Lib.hid (HK8.out.trans hk9 (fun _ _ e => e))
          have HE9 := Lib.hid (HE8.out.same hk9)
          clear hst9 ha9 hk9
          go_wp2
          go_ret
          exact ⟨rfl, HK9.out⟩
    · have HS := Lib.hid hs
      have hsl : (s.toList == [47]) = false := by rw [toList_sb]; simpa using hs
      clear hs
      have HQ : Hid (sb (s ++ ({ data := #[47] } : ByteArray) ++ t) = behind (sb s) (sb t)) := Lib.hid (by unfold behind; rw [if_neg HS.out]; simp [sb, ByteArray.data_append, List.append_assoc])
      have HCQ := Lib.hid (fun w he => check_any (s ++ ({ data := #[47] } : ByteArray) ++ t) w he)
      rw [HQ.out] at HCQ
      have HNT := Lib.hid (fun w (_ : True) => name_any t w)
      have HQS : Hid (((behind (sb s) (sb t)).length : Int) = (s.size : Int) + 1 + (t.size : Int)) := Lib.hid (by have h1 := sb_length s; have h2 := sb_length t; unfold behind; rw [if_neg HS.out]; simp only [List.length_append, List.length_cons]; omega)
      cases hnb : nameB (sb t) with
      | false =>
        rw [hnb] at HNT
        have HNB := Lib.hid hnb
        clear hnb
        go_wp2_with fail
        ((with_reducible refine (HNT.out _ trivial).mono ?_); rintro e w3 ⟨rfl, hk3⟩)
        have HK3 := Lib.hid (HK2.out.trans hk3 (fun _ _ e => e))
        have HE3 := Lib.hid (HE2.out.same hk3)
        clear hk3
        by_cases htz : t = ⟨#[]⟩
        · subst htz
          have hz : (namesOf (behind (sb s) (sb ⟨#[]⟩))).isSome = false := (behind_nothing HNS.out).trans (decide_eq_false HS.out)
          rw [hz] at HCQ
          clear hz
          go_wp2_with fail
          ((with_reducible refine (HCQ.out _ HE3.out).mono ?_); rintro e w4 ⟨rfl, hk4⟩)
          have HK4 := Lib.hid (HK3.out.trans hk4 (fun _ _ e => e))
          have HE4 := Lib.hid (HE3.out.same hk4)
          clear hk4
          go_wp2
          go_ret
          exact ⟨rfl, HK4.out⟩
        · have ht0 : (t.toList == []) = false := by rw [toList_sb]; have : sb t ≠ [] := fun e => htz (sb_inj (e.trans rfl)); simpa using this
          have HTN : Hid (sb t ≠ []) := Lib.hid (fun e => htz (sb_inj (e.trans rfl)))
          clear htz
          cases hm : namesOf (behind (sb s) (sb t)) with
          | none =>
            rw [hm] at HCQ
            clear hm
            go_wp2_with fail
            ((with_reducible refine (HCQ.out _ HE3.out).mono ?_); rintro e w4 ⟨rfl, hk4⟩)
            have HK4 := Lib.hid (HK3.out.trans hk4 (fun _ _ e => e))
            have HE4 := Lib.hid (HE3.out.same hk4)
            clear hk4
            go_wp2
            go_ret
            exact ⟨rfl, HK4.out⟩
          | some m =>
            have HLT := Lib.hid (behind_other HNS.out HNB.out HTN.out hm)
            have HSQ := Lib.hid (fun w he => pathSplit_any (s ++ ({ data := #[47] } : ByteArray) ++ t) w he)
            have HSP := Lib.hid (fun w he => pathSplit_any s w he)
            have en : nl (sb s) = l := by unfold nl; rw [HNS.out]; rfl
            have em : nl (sb (s ++ ({ data := #[47] } : ByteArray) ++ t)) = m := by unfold nl; rw [HQ.out, hm]; rfl
            have hl24 : l.length ≤ 24 := by rw [← en]; exact nl_len _
            have hm24 : m.length ≤ 24 := by rw [← em]; exact nl_len _
            rw [em] at HSQ
            rw [en] at HSP
            rw [hm] at HCQ
            clear hm en em
            obtain ⟨a, ha⟩ : ∃ a, l.length = a := ⟨_, rfl⟩
            obtain ⟨b, hb⟩ : ∃ a, m.length = a := ⟨_, rfl⟩
            rw [ha] at HSP HLT hl24
            rw [hb] at HSQ HLT hm24
            have hab : (a : Int) + 1 < (b : Int) := by have := HLT.out; omega
            clear ha hb
            go_wp2_with fail
            ((with_reducible refine (HCQ.out _ HE3.out).mono ?_); rintro e w4 ⟨rfl, hk4⟩)
            have HK4 := Lib.hid (HK3.out.trans hk4 (fun _ _ e => e))
            have HE4 := Lib.hid (HE3.out.same hk4)
            clear hk4
            go_wp2_with fail
            ((with_reducible refine (HSQ.out _ HE4.out).mono ?_); rintro e w5 ⟨ao5, rfl, hst5, ha5, hk5⟩)
            have HK5 := Lib.hid (HK4.out.trans hk5 (fun _ _ e => e))
            have HE5 := Lib.hid (HE4.out.same hk5)
            clear hst5 ha5 hk5
            go_wp2_with fail
            ((with_reducible refine (HSP.out _ HE5.out).mono ?_); rintro e w6 ⟨ao6, rfl, hst6, ha6, hk6⟩)
            have HK6 := Lib.hid (HK5.out.trans hk6 (fun _ _ e => e))
            have HE6 := Lib.hid (HE5.out.same hk6)
            clear hst6 ha6 hk6
            go_wp2
            go_ret
            exact ⟨rfl, HK6.out⟩
      | true =>
        rw [hnb] at HNT
        have HNB := Lib.hid hnb
        clear hnb
        go_wp2_with fail
        ((with_reducible refine (HNT.out _ trivial).mono ?_); rintro e w3 ⟨rfl, hk3⟩)
        have HK3 := Lib.hid (HK2.out.trans hk3 (fun _ _ e => e))
        have HE3 := Lib.hid (HE2.out.same hk3)
        clear hk3
        by_cases hqb : (24 : Int) < (s.size : Int) + 1 + (t.size : Int)
        · have hm := behind_great HNS.out HNB.out (by have := HQS.out; omega)
          rw [hm] at HCQ
          clear hm
          go_wp2_with fail
          ((with_reducible refine (HCQ.out _ HE3.out).mono ?_); rintro e w4 ⟨rfl, hk4⟩)
          have HK4 := Lib.hid (HK3.out.trans hk4 (fun _ _ e => e))
          have HE4 := Lib.hid (HE3.out.same hk4)
          clear hk4
          go_wp2
          go_ret
          exact ⟨rfl, HK4.out⟩
        · have hm := behind_name HNS.out HNB.out (by have := HQS.out; omega)
          have en : nl (sb s) = l := by unfold nl; rw [HNS.out]; rfl
          have em : nl (sb (s ++ ({ data := #[47] } : ByteArray) ++ t)) = l ++ [sb t] := by unfold nl; rw [HQ.out, hm]; rfl
          have hl24 : l.length ≤ 24 := by rw [← en]; exact nl_len _
          have HSQ := Lib.hid (fun w he => pathSplit_any (s ++ ({ data := #[47] } : ByteArray) ++ t) w he)
          have HSP := Lib.hid (fun w he => pathSplit_any s w he)
          have HPQ := Lib.hid (fun w he => parent_any (s ++ ({ data := #[47] } : ByteArray) ++ t) w he)
          have HBQ := Lib.hid (fun w he => base_any (s ++ ({ data := #[47] } : ByteArray) ++ t) w he)
          have HWQ := Lib.hid (fun w he => within_any s (s ++ ({ data := #[47] } : ByteArray) ++ t) w he)
          have ep : bsA (parentB (sb (s ++ ({ data := #[47] } : ByteArray) ++ t))) = s := by unfold parentB; rw [em, if_neg (by simp), List.dropLast_concat, path_join HNS.out, bsA_sb]
          have eb : bsA (baseB (sb (s ++ ({ data := #[47] } : ByteArray) ++ t))) = t := by unfold baseB; rw [em]; simp [bsA_sb]
          have ew : withinB (sb s) (sb (s ++ ({ data := #[47] } : ByteArray) ++ t)) = true := by unfold withinB; rw [en, em, HQ.out, hm, HNS.out]; simp
          rw [em] at HSQ
          rw [en] at HSP
          rw [ep] at HPQ
          rw [eb] at HBQ
          rw [ew] at HWQ
          rw [hm] at HCQ
          have ln : (l ++ [sb t]).length = l.length + 1 := by simp
          rw [ln] at HSQ
          clear hm en em ep eb ew ln
          obtain ⟨a, ha⟩ : ∃ a, l.length = a := ⟨_, rfl⟩
          rw [ha] at HSP HSQ hl24
          clear ha
          go_wp2_with fail
          ((with_reducible refine (HCQ.out _ HE3.out).mono ?_); rintro e w4 ⟨rfl, hk4⟩)
          have HK4 := Lib.hid (HK3.out.trans hk4 (fun _ _ e => e))
          have HE4 := Lib.hid (HE3.out.same hk4)
          clear hk4
          go_wp2_with fail
          ((with_reducible refine (HPQ.out _ HE4.out).mono ?_); rintro e w5 ⟨rfl, hk5⟩)
          have HK5 := Lib.hid (HK4.out.trans hk5 (fun _ _ e => e))
          have HE5 := Lib.hid (HE4.out.same hk5)
          clear hk5
          go_wp2_with fail
          ((with_reducible refine (HBQ.out _ HE5.out).mono ?_); rintro e w6 ⟨rfl, hk6⟩)
          have HK6 := Lib.hid (HK5.out.trans hk6 (fun _ _ e => e))
          have HE6 := Lib.hid (HE5.out.same hk6)
          clear hk6
          go_wp2_with fail
          ((with_reducible refine (HWQ.out _ HE6.out).mono ?_); rintro e w7 ⟨rfl, hk7⟩)
          have HK7 := Lib.hid (HK6.out.trans hk7 (fun _ _ e => e))
          have HE7 := Lib.hid (HE6.out.same hk7)
          clear hk7
          go_wp2_with fail
          ((with_reducible refine (HSQ.out _ HE7.out).mono ?_); rintro e w8 ⟨ao8, rfl, hst8, ha8, hk8⟩)
          have HK8 := Lib.hid (HK7.out.trans hk8 (fun _ _ e => e))
          have HE8 := Lib.hid (HE7.out.same hk8)
          clear hst8 ha8 hk8
          go_wp2_with fail
          ((with_reducible refine (HSP.out _ HE8.out).mono ?_); rintro e w9 ⟨ao9, rfl, hst9, ha9, hk9⟩)
          have HK9 := Lib.hid (HK8.out.trans hk9 (fun _ _ e => e))
          have HE9 := Lib.hid (HE8.out.same hk9)
          clear hst9 ha9 hk9
          go_wp2
          go_ret
          exact ⟨rfl, HK9.out⟩

end Go.Proofs.YtjehihgcbbialaaDoor
