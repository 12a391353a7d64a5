/- The document's own Within. -/
import Derived.Test.YtjehihgcbbialaaDoorPth17
import Derived.Test.YtjehihgcbbialaaDoorPth20
namespace Go.Proofs.YtjehihgcbbialaaDoor
open Go.RowKit
set_option linter.unusedVariables false

theorem within_none1 {bs cs : List UInt8} (h : (namesOf bs).isSome = false) : withinB bs cs = false := by unfold withinB; rw [h]; rfl
theorem within_none2 {bs cs : List UInt8} (h : (namesOf cs).isSome = false) : withinB bs cs = false := by unfold withinB; rw [h]; simp
theorem within_root {cs : List UInt8} (h : (namesOf cs).isSome = true) : withinB [47] cs = true := by
  have e : namesOf [47] = some [] := by unfold namesOf; exact if_pos rfl
  have e1 : nl [47] = [] := by unfold nl; rw [e]; rfl
  unfold withinB; rw [e, e1, h]; simp
theorem within_same {cs : List UInt8} (h : (namesOf cs).isSome = true) : withinB cs cs = true := by
  unfold withinB; rw [h]; simp
set_option maxRecDepth 100000 in
set_option maxHeartbeats 3200000 in
theorem refWithin_any (s t : ByteArray) (w : World) : Calls Tryd.prog 21 #[.string s, .string t] w fun e w' => e = .returned (.bool (withinB (sb s) (sb t))) ∧ Same w w' := by
  have HR1 := Lib.hid (fun w => refRight_any s w)
  have HR2 := Lib.hid (fun w => refRight_any t w)
  obtain ⟨r, hr⟩ : ∃ r, withinB (sb s) (sb t) = r := ⟨_, rfl⟩
  have HR := Lib.hid hr
  rw [hr]
  clear hr
  go_enter Tryd.func21, Tryd.ntmps21
  cases h1 : (namesOf (sb s)).isSome with
  | false =>
    have HF : Hid (r = false) := Lib.hid (by rw [← HR.out]; exact within_none1 h1)
    rw [h1] at HR1
    clear h1
    go_wp2_with fail
    ((with_reducible refine (HR1.out _).mono ?_); rintro e w1 ⟨rfl, hk1⟩)
    have HK1 := Lib.hid hk1
    clear hk1
    go_wp2
    go_ret
    exact ⟨by rw [HF.out]; rfl, HK1.out⟩
  | true =>
    have HS1 := Lib.hid h1
    rw [h1] at HR1
    clear h1
    go_wp2_with fail
    ((with_reducible refine (HR1.out _).mono ?_); rintro e w1 ⟨rfl, hk1⟩)
    have HK1 := Lib.hid hk1
    clear hk1
    cases h2 : (namesOf (sb t)).isSome with
    | false =>
      have HF : Hid (r = false) := Lib.hid (by rw [← HR.out]; exact within_none2 h2)
      rw [h2] at HR2
      clear h2
      go_wp2_with fail
      ((with_reducible refine (HR2.out _).mono ?_); rintro e w2 ⟨rfl, hk2⟩)
      have HK2 := Lib.hid (HK1.out.trans hk2 (fun _ _ e => e))
      clear hk2
      go_wp2
      go_ret
      exact ⟨by rw [HF.out]; rfl, HK2.out⟩
    | true =>
      have HS2 := Lib.hid h2
      rw [h2] at HR2
      clear h2
      go_wp2_with fail
      ((with_reducible refine (HR2.out _).mono ?_); rintro e w2 ⟨rfl, hk2⟩)
      have HK2 := Lib.hid (HK1.out.trans hk2 (fun _ _ e => e))
      clear hk2
      by_cases hs : sb s = [47]
      · have HF : Hid (r = true) := Lib.hid (by rw [← HR.out, hs]; exact within_root HS2.out)
        have hsl : (s.toList == [47]) = true := by rw [toList_sb, hs]; rfl
        clear hs
        go_wp2
        go_ret
        exact ⟨by rw [HF.out]; rfl, HK2.out⟩
      have hsl : (s.toList == [47]) = false := by rw [toList_sb]; simpa using hs
      have HN47 := Lib.hid hs
      clear hs
      by_cases hst : s = t
      · have HF : Hid (r = true) := Lib.hid (by rw [← HR.out, hst]; exact within_same HS2.out)
        have hse : (s.toList == t.toList) = true := by rw [hst]; simp
        clear hst
        go_wp2
        go_ret
        exact ⟨by rw [HF.out]; rfl, HK2.out⟩
      have HW : Hid (withinB (sb s) (sb t) = decide ((sb s).length < (sb t).length ∧ (sb t).take (sb s).length = sb s ∧ (sb t)[(sb s).length]? = some 47)) := Lib.hid (by
        cases e1 : namesOf (sb s) with
        | none => have := HS1.out; rw [e1] at this; simp at this
        | some l =>
          cases e2 : namesOf (sb t) with
          | none => have := HS2.out; rw [e2] at this; simp at this
          | some m => exact within_bytes e1 e2 HN47.out (fun e => hst (sb_inj e)))
      have hse := toList_nb hst
      clear hst
      by_cases hlt : (s.size : Int) < (t.size : Int)
      case neg =>
        have HF : Hid (r = false) := Lib.hid (by rw [← HR.out, HW.out]; exact decide_eq_false (by rw [sb_length, sb_length]; rintro ⟨h, _⟩; omega))
        have hlt2 : ¬ s.size < t.size := by omega
        go_wp2
        go_ret
        exact ⟨by rw [HF.out]; rfl, HK2.out⟩
      have hln : s.size < t.size := by omega
      have hle : (s.size : Int) ≤ (t.size : Int) := by omega
      have HTK : Hid ((t.extract 0 s.size).toList = (sb t).take (sb s).length) := Lib.hid (by rw [toList_sb, sb_length]; exact Lib.extract_from_zero t s.size)
      have HAT : Hid ((sb t)[(sb s).length]? = some (t[s.size]'hln)) := Lib.hid (by
        have h3 : (sb s).length < (sb t).length := by rw [sb_length, sb_length]; exact hln
        have h4 : (t[s.size]'hln) = (sb t)[s.size]'(by rw [sb_length]; exact hln) := rfl
        rw [List.getElem?_eq_getElem h3, h4]
        congr 1)
      by_cases hp : (sb t).take (sb s).length = sb s
      case neg =>
        have HF : Hid (r = false) := Lib.hid (by rw [← HR.out, HW.out]; exact decide_eq_false (fun h => hp h.2.1))
        have hxe : ((t.extract 0 s.size).toList == s.toList) = false := by rw [HTK.out, toList_sb]; simpa using hp
        clear hp
        go_wp2
        go_ret
        exact ⟨by rw [HF.out]; rfl, HK2.out⟩
      have hxe : ((t.extract 0 s.size).toList == s.toList) = true := by rw [HTK.out, toList_sb]; simpa using hp
      by_cases h47 : (((t[s.size]'hln).toNat : Nat) : Int) = 47
      · have HF : Hid (r = true) := Lib.hid (by rw [← HR.out, HW.out]; exact decide_eq_true ⟨by rw [sb_length, sb_length]; exact hln, hp, by
          rw [HAT.out]; congr 1; exact UInt8.toNat_inj.1 (by have : (47 : UInt8).toNat = 47 := rfl; omega)⟩)
        have hb : ((((t[s.size]'hln).toNat : Nat) : Int) == 47) = true := by simpa using h47
        clear hp h47
        go_wp2
        go_ret
        exact ⟨by rw [HF.out]; rfl, HK2.out⟩
      · have HF : Hid (r = false) := Lib.hid (by rw [← HR.out, HW.out]; exact decide_eq_false (fun h => h47 (by
          have h5 := h.2.2
          rw [HAT.out] at h5
          simp only [Option.some.injEq] at h5
          rw [h5]; rfl)))
        have hb : ((((t[s.size]'hln).toNat : Nat) : Int) == 47) = false := by simpa using h47
        clear hp h47
        go_wp2
        go_ret
        exact ⟨by rw [HF.out]; rfl, HK2.out⟩
end Go.Proofs.YtjehihgcbbialaaDoor
