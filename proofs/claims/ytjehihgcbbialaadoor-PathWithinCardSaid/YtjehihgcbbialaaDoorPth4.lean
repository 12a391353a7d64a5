/- path.Parent, Base, Within, Ancestors. -/
import Derived.Test.YtjehihgcbbialaaDoorPth3
import Derived.Deep.AppendLies
namespace Go.Proofs.YtjehihgcbbialaaDoor
open Go.RowKit
set_option linter.unusedVariables false

theorem nl_name (bs : List UInt8) : ∀ x ∈ nl bs, nameB x = true := fun x hx => by
  unfold nl namesOf at hx
  split at hx
  · simp at hx
  · split at hx
    · simp at hx
    · split at hx
      · rename_i h
        exact (List.all_eq_true.1 h) x (by simpa using hx)
      · simp at hx
theorem nameB_len {x : List UInt8} (h : nameB x = true) : 1 ≤ x.length ∧ x.length ≤ 8 := by
  unfold nameB at h
  simp only [Bool.and_eq_true, decide_eq_true_eq] at h
  exact h.1
theorem join_len : ∀ (l : List (List UInt8)), (∀ x ∈ l, x.length ≤ 8) → (Lib.join l [47]).length ≤ 9 * l.length
  | [], _ => by simp [Lib.join_nil]
  | x :: r, h => by
    rw [Lib.join_cons, List.length_append]
    have hx := h x (by simp)
    have ht : (Lib.joinTail [47] r).length ≤ 9 * r.length := by
      have hr : ∀ y ∈ r, y.length ≤ 8 := fun y hy => h y (by simp [hy])
      clear h hx
      induction r with
      | nil => simp [Lib.joinTail]
      | cons y t ih =>
        have h1 := ih (fun z hz => hr z (by simp [hz]))
        have h2 := hr y (by simp)
        simp only [Lib.joinTail, List.map_cons, List.flatten_cons, List.length_append, List.length_cons, List.length_nil] at h1 ⊢
        omega
    simp only [List.length_cons]; omega
theorem nl_join (bs : List UInt8) (l : List (List UInt8)) (h : ∀ x ∈ l, x ∈ nl bs) (hl : l.length ≤ 24) : (Lib.join l [47]).length ≤ 1000000 := by
  have := join_len l (fun x hx => (nameB_len (nl_name bs x (h x hx))).2)
  omega
def parentB (bs : List UInt8) : List UInt8 := if nl bs = [] then [] else joinP (nl bs).dropLast
def baseB (bs : List UInt8) : List UInt8 := (nl bs).getLastD []

set_option maxRecDepth 100000 in
set_option maxHeartbeats 3200000 in
theorem parent_any (s : ByteArray) (w : World) (he : Env w) : Calls Tryd.prog 15 #[.string s] w fun e w' => e = .returned (.string (bsA (parentB (sb s)))) ∧ Same w w' := by
  have HNM := Lib.hid (fun w he => names_any s w he)
  unfold NamesPost at HNM
  have HE := Lib.hid he
  have HNJ := Lib.hid (nl_join (sb s))
  have HL := Lib.hid (nl_len (sb s))
  have HP : Hid (parentB (sb s) = if nl (sb s) = [] then [] else joinP (nl (sb s)).dropLast) := Lib.hid rfl
  generalize parentB (sb s) = pb at HP ⊢
  clear he
  generalize nl (sb s) = l at HNM HNJ HL HP
  generalize (namesOf (sb s)).isSome = b at HNM
  obtain ⟨n, hn⟩ : ∃ n, l.length = n := ⟨_, rfl⟩
  rw [hn] at HNM HL
  have HN := Lib.hid hn
  cases n with
  | zero =>
    have HF : Hid (bsA pb = { data := #[] }) := Lib.hid (by rw [HP.out, if_pos (List.length_eq_zero_iff.1 HN.out)]; rfl)
    clear hn
    go_enter Tryd.func15, Tryd.ntmps15
    go_wp2_with fail
    ((with_reducible refine (HNM.out _ HE.out).mono ?_); rintro e w1 ⟨ao, rfl, hst, ha, hao, hk1⟩)
    have HK := Lib.hid hk1
    clear hst ha hao hk1
    go_wp2
    go_ret
    exact ⟨by rw [HF.out]; rfl, HK.out⟩
  | succ k =>
    have HF : Hid (pb = joinP l.dropLast) := Lib.hid (by rw [HP.out, if_neg (fun e => by rw [e] at hn; simp at hn)])
    have HTK : Hid ((l.map bsA).take k = l.dropLast.map bsA) := Lib.hid (by rw [← List.map_take, List.dropLast_eq_take, hn]; rfl)
    have HDL : Hid (l.dropLast.length = k) := Lib.hid (by rw [List.length_dropLast, hn]; rfl)
    have hkl : k ≤ 24 := by have := HL.out; omega
    have hk1 : ((k + 1 : Nat) : Int) - 1 = (k : Int) := by omega
    have hk0 : (((k + 1 : Nat) : Int) == 0) = false := by simp; omega
    have hk2 : (k : Int) ≤ ((k + 1 : Nat) : Int) := by omega
    clear hn
    go_enter Tryd.func15, Tryd.ntmps15
    go_wp2_with fail
    ((with_reducible refine (HNM.out _ HE.out).mono ?_); rintro e w1 ⟨ao, rfl, hst, ha, hao, hkk⟩)
    have HK := Lib.hid hkk
    have HJ := Lib.hid (pjoin_any ao k (k + 1) l.dropLast w1 (by rw [← HTK.out]; exact hst.take (by rw [List.length_map]; exact HN.out) k (k + 1) (by omega)) HDL.out (fun a h => (ha a h).1) (by omega) (by omega) (HNJ.out _ (fun x hx => (List.dropLast_sublist l).mem hx) (by rw [HDL.out]; exact hkl)))
    rw [← HF.out] at HJ
    clear hst ha hao hkk
    go_wp2_with fail
    ((with_reducible refine HJ.out.mono ?_); rintro e w2 ⟨rfl, hk2⟩)
    have HK2 := Lib.hid (HK.out.trans hk2 (fun _ _ e => e))
    clear hk2
    go_wp2
    go_ret
    exact ⟨rfl, HK2.out⟩

set_option maxRecDepth 100000 in
set_option maxHeartbeats 3200000 in
theorem base_any (s : ByteArray) (w : World) (he : Env w) : Calls Tryd.prog 17 #[.string s] w fun e w' => e = .returned (.string (bsA (baseB (sb s)))) ∧ Same w w' := by
  have HNM := Lib.hid (fun w he => names_any s w he)
  unfold NamesPost at HNM
  have HE := Lib.hid he
  have HP : Hid (baseB (sb s) = (nl (sb s)).getLastD []) := Lib.hid rfl
  have HL := Lib.hid (nl_len (sb s))
  generalize baseB (sb s) = pb at HP ⊢
  clear he
  generalize nl (sb s) = l at HNM HP HL
  generalize (namesOf (sb s)).isSome = b at HNM
  obtain ⟨n, hn⟩ : ∃ n, l.length = n := ⟨_, rfl⟩
  rw [hn] at HNM HL
  have HN := Lib.hid hn
  cases n with
  | zero =>
    have HF : Hid (bsA pb = { data := #[] }) := Lib.hid (by rw [HP.out, List.length_eq_zero_iff.1 HN.out]; rfl)
    clear hn
    go_enter Tryd.func17, Tryd.ntmps17
    go_wp2_with fail
    ((with_reducible refine (HNM.out _ HE.out).mono ?_); rintro e w1 ⟨ao, rfl, hst, ha, hao, hk1⟩)
    have HK := Lib.hid hk1
    clear hst ha hao hk1
    go_wp2
    go_ret
    exact ⟨by rw [HF.out]; rfl, HK.out⟩
  | succ k =>
    have hkl : k < (l.map bsA).length := by rw [List.length_map, hn]; omega
    have HF : Hid (∀ h : k < (l.map bsA).length, (l.map bsA)[k]'h = bsA pb) := Lib.hid (fun h => by
      have hk : k < l.length := by omega
      rw [List.getElem_map, HP.out, List.getLastD_eq_getLast?, List.getLast?_eq_getElem?]
      have e : l[l.length - 1]? = some l[k] := by
        have : l.length - 1 = k := by omega
        rw [this]; exact List.getElem?_eq_getElem hk
      rw [e]; rfl)
    have hk24 : k ≤ 24 := by have := HL.out; omega
    have hk1 : ((k + 1 : Nat) : Int) - 1 = (k : Int) := by omega
    have hk0 : (((k + 1 : Nat) : Int) == 0) = false := by simp; omega
    have hk2 : (k : Int) < ((k + 1 : Nat) : Int) := by omega
    clear hn
    go_enter Tryd.func17, Tryd.ntmps17
    go_wp2_with fail
    ((with_reducible refine (HNM.out _ HE.out).mono ?_); rintro e w1 ⟨ao, rfl, hst, ha, hao, hkk⟩)
    have HK := Lib.hid hkk
    obtain ⟨a, rfl, hc⟩ := hst.at hkl
    rw [HF.out hkl] at hc
    clear hst ha hao hkk
    go_wp2
    go_ret
    exact ⟨rfl, HK.out⟩

def withinB (bs cs : List UInt8) : Bool := (namesOf bs).isSome && (namesOf cs).isSome && decide ((nl bs).length ≤ (nl cs).length) && decide (nl bs = (nl cs).take (nl bs).length)
theorem bsA_inj_map {l m : List (List UInt8)} : l.map bsA = m.map bsA ↔ l = m := by
  constructor
  · intro h
    have := congrArg (List.map sb) h
    rwa [map_sb_bsA, map_sb_bsA] at this
  · intro h; rw [h]
set_option maxRecDepth 100000 in
set_option maxHeartbeats 6400000 in
theorem within_any (s t : ByteArray) (w : World) (he : Env w) : Calls Tryd.prog 20 #[.string s, .string t] w fun e w' => e = .returned (.bool (withinB (sb s) (sb t))) ∧ Same w w' := by
  have HA := Lib.hid (fun w he => names_any s w he)
  have HB := Lib.hid (fun w he => names_any t w he)
  unfold NamesPost at HA HB
  have HE := Lib.hid he
  have HP : Hid (withinB (sb s) (sb t) = ((namesOf (sb s)).isSome && (namesOf (sb t)).isSome && decide ((nl (sb s)).length ≤ (nl (sb t)).length) && decide (nl (sb s) = (nl (sb t)).take (nl (sb s)).length))) := Lib.hid rfl
  have HL1 := Lib.hid (nl_len (sb s))
  have HL2 := Lib.hid (nl_len (sb t))
  generalize withinB (sb s) (sb t) = r at HP ⊢
  clear he
  generalize nl (sb s) = l at HA HP HL1
  generalize nl (sb t) = m at HB HP HL2
  generalize (namesOf (sb s)).isSome = b1 at HA HP
  generalize (namesOf (sb t)).isSome = b2 at HB HP
  obtain ⟨n, hn⟩ : ∃ n, l.length = n := ⟨_, rfl⟩
  obtain ⟨k, hk⟩ : ∃ n, m.length = n := ⟨_, rfl⟩
  rw [hn] at HA HP HL1
  rw [hk] at HB HP HL2
  have HN := Lib.hid hn
  have HM := Lib.hid hk
  clear hn hk
  have hn24 : n ≤ 24 := HL1.out
  have hk24 : k ≤ 24 := HL2.out
  go_enter Tryd.func20, Tryd.ntmps20
  go_wp2_with fail
  ((with_reducible refine (HA.out _ HE.out).mono ?_); rintro e w1 ⟨ao, rfl, hst, ha, hao, hk1⟩)
  have HST := Lib.hid hst
  have HK := Lib.hid hk1
  have HE1 := Lib.hid (HE.out.same hk1)
  clear hst ha hao hk1
  go_wp2_with fail
  ((with_reducible refine (HB.out _ HE1.out).mono ?_); rintro e w2 ⟨bo, rfl, hst, ha, hao, hk2⟩)
  have HSU := Lib.hid hst
  have HST2 := Lib.hid (HST.out.same hk2)
  have HK2 := Lib.hid (HK.out.trans hk2 (fun _ _ e => e))
  clear hst ha hao hk2
  cases b1 with
  | false =>
    have HF : Hid (r = false) := Lib.hid (by rw [HP.out]; rfl)
    go_wp2
    go_ret
    exact ⟨by rw [HF.out]; rfl, HK2.out⟩
  | true =>
    cases b2 with
    | false =>
      have HF : Hid (r = false) := Lib.hid (by rw [HP.out]; rfl)
      go_wp2
      go_ret
      exact ⟨by rw [HF.out]; rfl, HK2.out⟩
    | true =>
      by_cases hnk : n ≤ k
      · have hnk2 : (n : Int) ≤ (k : Int) := by omega
        have HF : Hid (decide (l.map bsA = (m.take n).map bsA) = r) := Lib.hid (by
          rw [HP.out, decide_eq_true hnk]
          simp only [Bool.true_and]
          exact decide_eq_decide.2 bsA_inj_map)
        have HEQ := Lib.hid (equal_any ao bo n n n k (l.map bsA) ((m.take n).map bsA) w2 HST2.out (by rw [List.map_take]; exact HSU.out.take (by rw [List.length_map]; exact HM.out) n k hnk) (by rw [List.length_map]; exact HN.out) (by rw [List.length_map, List.length_take, HM.out]; omega) (by omega) (by omega))
        rw [HF.out] at HEQ
        go_wp2_with (first | (go_at_call 24; with_reducible refine HEQ.out.mono ?_; rintro e w3 ⟨rfl, hk3⟩; have HK3 := Lib.hid (HK2.out.trans hk3 (fun _ _ e => e)); clear hk3))
        go_ret
        exact ⟨rfl, HK3.out⟩
      · have hnk2 : ¬ (n : Int) ≤ (k : Int) := by omega
        have HF : Hid (r = false) := Lib.hid (by rw [HP.out, decide_eq_false hnk]; rfl)
        go_wp2
        go_ret
        exact ⟨by rw [HF.out]; rfl, HK2.out⟩
end Go.Proofs.YtjehihgcbbialaaDoor
