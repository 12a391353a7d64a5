/- The walk of PathUp. -/
import Derived.Test.YtjehihgcbbialaaDoorPth6
import Derived.Test.YtjehihgcbbialaaDoorPth10
namespace Go.Proofs.YtjehihgcbbialaaDoor
open Go.RowKit
set_option linter.unusedVariables false

set_option maxRecDepth 100000 in
set_option maxHeartbeats 12800000 in
theorem up_any (s : ByteArray) (w : World) (he : Env w) : Calls Tryd.prog 5 #[.string s] w fun e w' => e = .returned (.bool true) ∧ Same w w' := by
  have HE0 := Lib.hid he
  have HC := Lib.hid (fun w he => check_any s w he)
  clear he
  go_enter Tryd.func5, Tryd.ntmps5
  go_wp2_with fail
  ((with_reducible refine (speaks9 _ HE0.out).mono ?_); rintro e w1 ⟨rfl, hk1⟩)
  have HK1 := Lib.hid hk1
  have HE1 := Lib.hid (HE0.out.same hk1)
  clear hk1
  by_cases h1 : (300 : Int) < (s.size : Int)
  · go_wp2
    go_ret
    exact ⟨rfl, HK1.out⟩
  have hd1 : decide ((300 : Int) < (s.size : Int)) = false := decide_eq_false h1
  clear h1
  cases hn : namesOf (sb s) with
  | none =>
    rw [hn] at HC
    clear hn
    go_wp2_with fail
    ((with_reducible refine (HC.out _ HE1.out).mono ?_); rintro e w2 ⟨rfl, hk2⟩)
    have HK2 := Lib.hid (HK1.out.trans hk2 (fun _ _ e => e))
    clear hk2
    go_wp2
    go_ret
    exact ⟨rfl, HK2.out⟩
  | some l =>
    have HNS := Lib.hid hn
    rw [hn] at HC
    clear hn
    go_wp2_with fail
    ((with_reducible refine (HC.out _ HE1.out).mono ?_); rintro e w2 ⟨rfl, hk2⟩)
    have HK2 := Lib.hid (HK1.out.trans hk2 (fun _ _ e => e))
    have HE2 := Lib.hid (HE1.out.same hk2)
    clear hk2
    by_cases hs : sb s = [47]
    · have hsl : (s.toList == [47]) = true := by rw [toList_sb, hs]; rfl
      clear hs
      go_wp2
      go_ret
      exact ⟨rfl, HK2.out⟩
    have hsl : (s.toList == [47]) = false := by rw [toList_sb]; simpa using hs
    obtain ⟨hne, u1, u2, u3, u4⟩ := up_again HNS.out hs
    have HPA := Lib.hid (fun w he => parent_any s w he)
    have HBA := Lib.hid (fun w he => base_any s w he)
    have HAN := Lib.hid (fun w he => ancestors_any s w he)
    unfold UpsPost at HAN
    have en : nl (sb s) = l := by unfold nl; rw [HNS.out]; rfl
    have hl24 : l.length ≤ 24 := by rw [← en]; exact nl_len _
    rw [en] at HAN
    rw [u1] at HPA
    rw [u2] at HBA
    obtain ⟨k, hk⟩ : ∃ k, l.length = k + 1 := ⟨l.length - 1, by have := List.length_pos_iff.2 hne; omega⟩
    have HUL : Hid ((upsOf l).length = k + 1) := Lib.hid ((upsOf_len l).trans hk)
    rw [HUL.out] at HAN
    have HUQ : Hid (∀ q (h : q < ((upsOf l).map bsA).length), ((upsOf l).map bsA)[q] = bsA (joinP (l.take q))) := Lib.hid (fun q h => by simp [upsOf])
    have HWI : Hid (∀ q, q < k + 1 → withinB (joinP (l.take q)) (sb s) = true ∧ withinB (sb s) (joinP (l.take q)) = false) := Lib.hid (fun q h => ups_within HNS.out q (by omega))
    have HSP := Lib.hid (fun w he => pathSplit_any s w he)
    rw [en, hk] at HSP
    have HNB := Lib.hid (fun w => name_any (bsA (l.getLastD [])) w)
    rw [sb_bsA, u4] at HNB
    obtain ⟨u, hu0⟩ : ∃ u, bsA (joinP l.dropLast) = u := ⟨_, rfl⟩
    obtain ⟨v, hv0⟩ : ∃ v, bsA (l.getLastD []) = v := ⟨_, rfl⟩
    have HU : Hid (sb u = joinP l.dropLast) := Lib.hid (by rw [← hu0, sb_bsA])
    have HLU : Hid (bsA (joinP (l.take k)) = u) := Lib.hid (by rw [← hu0, List.dropLast_eq_take, hk]; rfl)
    have HBH : Hid (behind (sb u) (sb v) = sb s) := Lib.hid (by rw [← hu0, ← hv0, sb_bsA, sb_bsA]; exact u3)
    have hus : (u.size : Int) ≤ 24 ∧ (v.size : Int) ≤ 24 := by
      have h1 := path_len (ups_names HNS.out k)
      have h2 := (nameB_len u4).2
      have h3 : sb u = joinP (l.take k) := by rw [← HLU.out, sb_bsA]
      have h4 : sb v = l.getLastD [] := by rw [← hv0, sb_bsA]
      have h5 := sb_length u
      have h6 := sb_length v
      rw [h3] at h5; rw [h4] at h6
      omega
    rw [hu0] at HPA
    rw [hv0] at HBA HNB
    have HDR : Hid (l.dropLast ≠ [] → ¬ sb u = [47]) := Lib.hid (fun h => by
      rw [HU.out]
      exact behind_root h (fun x hx => nl_name (sb s) x (by rw [en]; exact (List.dropLast_sublist l).mem hx)))
    have hk24 : k ≤ 24 := by omega
    clear hs hne u1 u2 u3 u4 en hl24 hk hu0 hv0
    go_wp2_with fail
    ((with_reducible refine (HPA.out _ HE2.out).mono ?_); rintro e w3 ⟨rfl, hk3⟩)
    have HK3 := Lib.hid (HK2.out.trans hk3 (fun _ _ e => e))
    have HE3 := Lib.hid (HE2.out.same hk3)
    clear hk3
    go_wp2_with fail
    ((with_reducible refine (HBA.out _ HE3.out).mono ?_); rintro e w4 ⟨rfl, hk4⟩)
    have HK4 := Lib.hid (HK3.out.trans hk4 (fun _ _ e => e))
    have HE4 := Lib.hid (HE3.out.same hk4)
    clear hk4
    by_cases hd : l.dropLast = []
    · have HAG : Hid ((({ data := #[47] } : ByteArray) ++ v) = s) := Lib.hid (sb_inj (by
        have h1 := HBH.out
        have h2 := HU.out
        rw [hd] at h2
        rw [h2] at h1
        rw [← h1]
        unfold behind
        rw [if_pos (show joinP [] = [47] from rfl)]
        simp [sb, ByteArray.data_append]))
      have hu : (u.toList == [47]) = true := by rw [toList_sb, HU.out]; rw [hd]; rfl
      have hag : ({ data := #[47] } : ByteArray) ++ v = s := HAG.out
      go_wp2_with fail
      ((with_reducible refine (HAN.out _ HE4.out).mono ?_); rintro e w5 ⟨ao, c5, rfl, hst, hk5⟩)
      have HST := Lib.hid hst
      have HK5 := Lib.hid (HK4.out.trans hk5 (fun _ _ e => e))
      have HE5 := Lib.hid (HE4.out.same hk5)
      clear hst hk5
      go_wp2
      go_loopw [39] (fun i wr => ∃ q : Nat, q ≤ k + 1 ∧ i = .int .i64 q ∧ Hid (Same w5 wr)) (fun i _ => k + 1 - (intOf i).toNat)
      case atStart => exact ⟨0, by omega, rfl, Lib.hid (Keeps.refl _ _)⟩
      case round =>
        obtain ⟨q, hq, rfl, HS⟩ := hrel
        have HEr := Lib.hid (HE5.out.same HS.out)
        by_cases hlt : q < k + 1
        · have hql : q < ((upsOf l).map bsA).length := by rw [List.length_map, HUL.out]; exact hlt
          obtain ⟨a, rfl, hc⟩ := (HST.out.same HS.out).at hql
          rw [HUQ.out q hql] at hc
          have HWA := Lib.hid (fun w he => within_any (bsA (joinP (l.take q))) s w he)
          have HWB := Lib.hid (fun w he => within_any s (bsA (joinP (l.take q))) w he)
          rw [sb_bsA, (HWI.out q hlt).1] at HWA
          rw [sb_bsA, (HWI.out q hlt).2] at HWB
          generalize bsA (joinP (l.take q)) = z at hc HWA HWB
          have hjn : (q : Int) < ((k + 1 : Nat) : Int) := by omega
          clear hql
          go_wp2_with fail
          ((with_reducible refine (HWA.out _ HEr.out).mono ?_); rintro e w6 ⟨rfl, hk6⟩)
          have HS6 := Lib.hid (HS.out.trans hk6 (fun _ _ e => e))
          have HE6 := Lib.hid (HEr.out.same hk6)
          clear hk6
          go_wp2_with fail
          ((with_reducible refine (HWB.out _ HE6.out).mono ?_); rintro e w7 ⟨rfl, hk7⟩)
          have HS7 := Lib.hid (HS6.out.trans hk7 (fun _ _ e => e))
          clear hk7
          go_wp2
          go_roundw
          case rel => exact ⟨q + 1, by omega, by go_num, HS7⟩
          case measure => simp [intOf]; omega
        · have hqe : q = k + 1 := by omega
          subst hqe
          have hkl : k < ((upsOf l).map bsA).length := by rw [List.length_map, HUL.out]; omega
          obtain ⟨a, rfl, hc⟩ := (HST.out.same HS.out).at hkl
          rw [HUQ.out k hkl, HLU.out] at hc
          have hnlt : ¬ ((k + 1 : Nat) : Int) < ((k + 1 : Nat) : Int) := by omega
          have hk1 : ((k + 1 : Nat) : Int) - 1 = (k : Int) := by omega
          have hk2 : (k : Int) < ((k + 1 : Nat) : Int) := by omega
          have hk3 : (0 : Int) < ((k + 1 : Nat) : Int) := by omega
          clear hkl
          go_wp2_with fail
          ((with_reducible refine (HNB.out _).mono ?_); rintro e w6 ⟨rfl, hk6⟩)
          have HS6 := Lib.hid (HS.out.trans hk6 (fun _ _ e => e))
          have HE6 := Lib.hid (HEr.out.same hk6)
          have hc6 : w6.cell? (a.add k) = some (.string u) := (World.cell?_of_block (w := wr) (hk6.block _ (World.block_lt_of_cell? wr _ hc) (fun e => e))).trans hc
          clear hk6 hc
          go_wp2_with fail
          ((with_reducible refine (HSP.out _ HE6.out).mono ?_); rintro e w7 ⟨bo, rfl, hst7, ha7, hk7⟩)
          have HS7 := Lib.hid (HK5.out.trans (HS6.out.trans hk7 (fun _ _ e => e)) (fun _ _ e => e))
          clear hst7 ha7 hk7
          go_wp2
          go_ret
          exact ⟨rfl, HS7.out⟩
    · have HNR := Lib.hid (HDR.out hd)
      have HAG : Hid ((u ++ ({ data := #[47] } : ByteArray) ++ v) = s) := Lib.hid (sb_inj (by
        rw [← HBH.out]
        unfold behind
        rw [if_neg HNR.out]
        simp [sb, ByteArray.data_append, List.append_assoc]))
      have hu : (u.toList == [47]) = false := by rw [toList_sb]; simpa using HNR.out
      have hag : u ++ ({ data := #[47] } : ByteArray) ++ v = s := HAG.out
      go_wp2_with fail
      ((with_reducible refine (HAN.out _ HE4.out).mono ?_); rintro e w5 ⟨ao, c5, rfl, hst, hk5⟩)
      have HST := Lib.hid hst
      have HK5 := Lib.hid (HK4.out.trans hk5 (fun _ _ e => e))
      have HE5 := Lib.hid (HE4.out.same hk5)
      clear hst hk5
      go_wp2
      go_loopw [39] (fun i wr => ∃ q : Nat, q ≤ k + 1 ∧ i = .int .i64 q ∧ Hid (Same w5 wr)) (fun i _ => k + 1 - (intOf i).toNat)
      case atStart => exact ⟨0, by omega, rfl, Lib.hid (Keeps.refl _ _)⟩
      case round =>
        obtain ⟨q, hq, rfl, HS⟩ := hrel
        have HEr := Lib.hid (HE5.out.same HS.out)
        by_cases hlt : q < k + 1
        · have hql : q < ((upsOf l).map bsA).length := by rw [List.length_map, HUL.out]; exact hlt
          obtain ⟨a, rfl, hc⟩ := (HST.out.same HS.out).at hql
          rw [HUQ.out q hql] at hc
          have HWA := Lib.hid (fun w he => within_any (bsA (joinP (l.take q))) s w he)
          have HWB := Lib.hid (fun w he => within_any s (bsA (joinP (l.take q))) w he)
          rw [sb_bsA, (HWI.out q hlt).1] at HWA
          rw [sb_bsA, (HWI.out q hlt).2] at HWB
          generalize bsA (joinP (l.take q)) = z at hc HWA HWB
          have hjn : (q : Int) < ((k + 1 : Nat) : Int) := by omega
          clear hql
          go_wp2_with fail
          ((with_reducible refine (HWA.out _ HEr.out).mono ?_); rintro e w6 ⟨rfl, hk6⟩)
          have HS6 := Lib.hid (HS.out.trans hk6 (fun _ _ e => e))
          have HE6 := Lib.hid (HEr.out.same hk6)
          clear hk6
          go_wp2_with fail
          ((with_reducible refine (HWB.out _ HE6.out).mono ?_); rintro e w7 ⟨rfl, hk7⟩)
          have HS7 := Lib.hid (HS6.out.trans hk7 (fun _ _ e => e))
          clear hk7
          go_wp2
          go_roundw
          case rel => exact ⟨q + 1, by omega, by go_num, HS7⟩
          case measure => simp [intOf]; omega
        · have hqe : q = k + 1 := by omega
          subst hqe
          have hkl : k < ((upsOf l).map bsA).length := by rw [List.length_map, HUL.out]; omega
          obtain ⟨a, rfl, hc⟩ := (HST.out.same HS.out).at hkl
          rw [HUQ.out k hkl, HLU.out] at hc
          have hnlt : ¬ ((k + 1 : Nat) : Int) < ((k + 1 : Nat) : Int) := by omega
          have hk1 : ((k + 1 : Nat) : Int) - 1 = (k : Int) := by omega
          have hk2 : (k : Int) < ((k + 1 : Nat) : Int) := by omega
          have hk3 : (0 : Int) < ((k + 1 : Nat) : Int) := by omega
          clear hkl
          go_wp2_with fail
          ((with_reducible refine (HNB.out _).mono ?_); rintro e w6 ⟨rfl, hk6⟩)
          have HS6 := Lib.hid (HS.out.trans hk6 (fun _ _ e => e))
          have HE6 := Lib.hid (HEr.out.same hk6)
          have hc6 : w6.cell? (a.add k) = some (.string u) := (World.cell?_of_block (w := wr) (hk6.block _ (World.block_lt_of_cell? wr _ hc) (fun e => e))).trans hc
          clear hk6 hc
          go_wp2_with fail
          ((with_reducible refine (HSP.out _ HE6.out).mono ?_); rintro e w7 ⟨bo, rfl, hst7, ha7, hk7⟩)
          have HS7 := Lib.hid (HK5.out.trans (HS6.out.trans hk7 (fun _ _ e => e)) (fun _ _ e => e))
          clear hst7 ha7 hk7
          go_wp2
          go_ret
          exact ⟨rfl, HS7.out⟩
end Go.Proofs.YtjehihgcbbialaaDoor
