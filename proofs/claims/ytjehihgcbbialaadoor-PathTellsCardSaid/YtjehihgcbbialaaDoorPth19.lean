/- The document's own Parent. -/
import Derived.Test.YtjehihgcbbialaaDoorPth18
namespace Go.Proofs.YtjehihgcbbialaaDoor
open Go.RowKit
set_option linter.unusedVariables false
set_option maxRecDepth 100000 in
set_option maxHeartbeats 3200000 in
theorem refParent_any (s : ByteArray) (w : World) : Calls Tryd.prog 16 #[.string s] w fun e w' => e = .returned (.string (bsA (parentB (sb s)))) ∧ Same w w' := by
  have HNM := Lib.hid (fun w => refSplit_any s w)
  unfold RSplit at HNM
  have HJ8 : Hid (∀ x ∈ nl (sb s), x.length ≤ 8) := Lib.hid (fun x hx => (nameB_len (nl_name (sb s) x hx)).2)
  have HL := Lib.hid (nl_len (sb s))
  have HP : Hid (parentB (sb s) = if nl (sb s) = [] then [] else joinP (nl (sb s)).dropLast) := Lib.hid rfl
  generalize parentB (sb s) = pb at HP ⊢
  generalize nl (sb s) = l at HNM HJ8 HL HP
  generalize (namesOf (sb s)).isSome = b at HNM
  obtain ⟨n, hn⟩ : ∃ n, l.length = n := ⟨_, rfl⟩
  rw [hn] at HNM HL
  have HN := Lib.hid hn
  cases n with
  | zero =>
    have HF : Hid (bsA pb = { data := #[] }) := Lib.hid (by rw [HP.out, if_pos (List.length_eq_zero_iff.1 HN.out)]; rfl)
    clear hn
    go_enter Tryd.func16, Tryd.ntmps16
    go_wp2_with fail
    ((with_reducible refine (HNM.out _).mono ?_); rintro e w1 ⟨ao, c, rfl, hst, hcc, hk1⟩)
    have HK := Lib.hid hk1
    clear hst hcc hk1
    go_wp2
    go_ret
    exact ⟨by rw [HF.out]; rfl, HK.out⟩
  | succ k =>
    have HF : Hid (pb = joinP l.dropLast) := Lib.hid (by rw [HP.out, if_neg (fun e => by rw [e] at hn; simp at hn)])
    have HTK : Hid ((l.map bsA).take k = l.dropLast.map bsA) := Lib.hid (by rw [← List.map_take, List.dropLast_eq_take, hn]; rfl)
    have HDL : Hid (l.dropLast.length = k) := Lib.hid (by rw [List.length_dropLast, hn]; rfl)
    have hkl : k ≤ 24 := by have := HL.out; omega
    have hk1 : ((k + 1 : Nat) : Int) - 1 = (k : Int) := by omega
    have hk0 : (((k + 1 : Nat) : Int) == 0) = false := by simp; omega
    clear hn
    go_enter Tryd.func16, Tryd.ntmps16
    go_wp2_with fail
    ((with_reducible refine (HNM.out _).mono ?_); rintro e w1 ⟨ao, c, rfl, hst, hcc, hkk⟩)
    have HK := Lib.hid hkk
    have hk2 : (k : Int) ≤ (c : Int) := by omega
    have HLN : Hid ((joinP l.dropLast).length ≤ 1000000) := Lib.hid (by
      have h1 := join_len l.dropLast (fun x hx => by
        have := HJ8.out x ((List.dropLast_sublist l).mem hx)
        exact this)
      rw [HDL.out] at h1
      rw [joinP, List.length_cons]; omega)
    have HJ := Lib.hid (refJoin_any ao k c l.dropLast w1 (by rw [← HTK.out]; exact hst.take (by rw [List.length_map]; exact HN.out) k c (by omega)) HDL.out (by omega) HLN.out)
    rw [← HF.out] at HJ
    clear hst hcc hkk
    go_wp2_with fail
    ((with_reducible refine HJ.out.mono ?_); rintro e w2 ⟨rfl, hk2⟩)
    have HK2 := Lib.hid (HK.out.trans hk2 (fun _ _ e => e))
    clear hk2
    go_wp2
    go_ret
    exact ⟨rfl, HK2.out⟩
end Go.Proofs.YtjehihgcbbialaaDoor
