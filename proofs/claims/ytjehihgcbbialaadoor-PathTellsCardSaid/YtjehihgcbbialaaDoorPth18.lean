/- The document's own Parent and Base. -/
import Derived.Test.YtjehihgcbbialaaDoorPth17
namespace Go.Proofs.YtjehihgcbbialaaDoor
open Go.RowKit
set_option linter.unusedVariables false
set_option maxRecDepth 100000 in
set_option maxHeartbeats 3200000 in
theorem refBase_any (s : ByteArray) (w : World) : Calls Tryd.prog 18 #[.string s] w fun e w' => e = .returned (.string (bsA (baseB (sb s)))) ∧ Same w w' := by
  have HNM := Lib.hid (fun w => refSplit_any s w)
  unfold RSplit at HNM
  have HP : Hid (baseB (sb s) = (nl (sb s)).getLastD []) := Lib.hid rfl
  have HL := Lib.hid (nl_len (sb s))
  generalize baseB (sb s) = pb at HP ⊢
  generalize nl (sb s) = l at HNM HP HL
  generalize (namesOf (sb s)).isSome = b at HNM
  obtain ⟨n, hn⟩ : ∃ n, l.length = n := ⟨_, rfl⟩
  rw [hn] at HNM HL
  have HN := Lib.hid hn
  cases n with
  | zero =>
    have HF : Hid (bsA pb = { data := #[] }) := Lib.hid (by rw [HP.out, List.length_eq_zero_iff.1 HN.out]; rfl)
    clear hn
    go_enter Tryd.func18, Tryd.ntmps18
    go_wp2_with fail
    ((with_reducible refine (HNM.out _).mono ?_); rintro e w1 ⟨ao, c, rfl, hst, hcc, hk1⟩)
    have HK := Lib.hid hk1
    clear hst hcc hk1
    go_wp2
    go_ret
    exact ⟨by rw [HF.out]; rfl, HK.out⟩
  | succ k =>
    have hkl : k < (l.map bsA).length := by rw [List.length_map, hn]; omega
    have HF : Hid (∀ h : k < (l.map bsA).length, (l.map bsA)[k]'h = bsA pb) := Lib.hid (fun h => by
      have hk : k < l.length := by omega
      rw [List.getElem_map, HP.out, List.getLastD_eq_getLast?, List.getLast?_eq_getElem?]
      have e : l[l.length - 1]? = some l[k] := by
        have : l.length - 1 = k := by omega
        rw [this]; exact List.getElem?_eq_getElem hk
      rw [e]; rfl)
    have hk24 : k ≤ 24 := by have := HL.out; omega
    have hk1 : ((k + 1 : Nat) : Int) - 1 = (k : Int) := by omega
    have hk0 : (((k + 1 : Nat) : Int) == 0) = false := by simp; omega
    have hk2 : (k : Int) < ((k + 1 : Nat) : Int) := by omega
    clear hn
    go_enter Tryd.func18, Tryd.ntmps18
    go_wp2_with fail
    ((with_reducible refine (HNM.out _).mono ?_); rintro e w1 ⟨ao, c, rfl, hst, hcc, hkk⟩)
    have HK := Lib.hid hkk
    obtain ⟨a, rfl, hc⟩ := hst.at hkl
    rw [HF.out hkl] at hc
    clear hst hcc hkk
    go_wp2
    go_ret
    exact ⟨rfl, HK.out⟩
end Go.Proofs.YtjehihgcbbialaaDoor
