/- path.names and what calls it. -/
import Derived.Test.YtjehihgcbbialaaDoorPth1
import Derived.Test.YtjehihgcbbialaaDoorLayP2
namespace Go.Proofs.YtjehihgcbbialaaDoor
open Go.RowKit
set_option linter.unusedVariables false

theorem head_extract (s : ByteArray) (h : 1 ≤ s.size) : ((s.extract 0 1).toList == [47]) = decide ((sb s).head? = some 47) := by
  have e : (s.extract 0 1).toList = (sb s).take 1 := by rw [toList_sb]; exact Lib.extract_from_zero s 1
  rw [e]
  have hl : 1 ≤ (sb s).length := by rw [sb_length]; exact h
  cases hb : sb s with
  | nil => rw [hb] at hl; simp at hl
  | cons b r => simp [Bool.beq_eq_decide_eq]

set_option maxRecDepth 100000 in
set_option maxHeartbeats 1600000 in
theorem prefixIn_any (s : ByteArray) (w : World) : Calls Tryd.prog 31 #[.string s, .string ⟨#[47]⟩] w fun e w' => e = .returned (.bool (decide ((sb s).head? = some 47))) ∧ w' = w := by
  obtain ⟨r, hr⟩ : ∃ r, decide ((sb s).head? = some 47) = r := ⟨_, rfl⟩
  have HR := Lib.hid hr
  rw [hr]
  clear hr
  by_cases h : 1 ≤ (s.size : Int)
  · have hx := head_extract s (by omega)
    rw [HR.out] at hx
    go_enter Tryd.func31, Tryd.ntmps31
    go_wp2
    go_ret
    exact ⟨rfl, rfl⟩
  · have HF : Hid (r = false) := Lib.hid (by
      rw [← HR.out]
      have : sb s = [] := List.length_eq_zero_iff.1 (by rw [sb_length]; omega)
      rw [this]; rfl)
    go_enter Tryd.func31, Tryd.ntmps31
    go_wp2
    go_ret
    exact ⟨by rw [HF.out]; rfl, rfl⟩
set_option maxRecDepth 100000 in
set_option maxHeartbeats 800000 in
theorem hasPrefix_any (s : ByteArray) (w : World) : Calls Tryd.prog 26 #[.string s, .string ⟨#[47]⟩] w fun e w' => e = .returned (.bool (decide ((sb s).head? = some 47))) ∧ w' = w := by
  have HP := Lib.hid (fun w => prefixIn_any s w)
  generalize decide ((sb s).head? = some 47) = r at HP ⊢
  go_enter Tryd.func26, Tryd.ntmps26
  go_wp2_with fail
  ((with_reducible refine (HP.out _).mono ?_); rintro e w1 ⟨rfl, rfl⟩)
  go_wp2
  go_ret
  exact ⟨rfl, rfl⟩

def NamesPost (w : World) (bs : List UInt8) (e : Ending) (w' : World) : Prop :=
  ∃ ao, e = .returned (.tuple #[.slice ao (nl bs).length (nl bs).length, .bool (namesOf bs).isSome]) ∧ Strs w' (.slice ao (nl bs).length (nl bs).length) ((nl bs).map bsA) ∧ (∀ a, ao = some a → a.spot = none ∧ w.heap.size ≤ a.block) ∧ (ao = none → (nl bs).length = 0) ∧ Same w w'
theorem names_none {w w' : World} {bs : List UInt8} (h : namesOf bs = none) (k : Same w w') : NamesPost w bs (.returned (.tuple #[.slice none 0 0, .bool false])) w' := by
  have e : nl bs = [] := by unfold nl; rw [h]; rfl
  unfold NamesPost
  rw [e, h]
  exact ⟨.none, rfl, Strs.nil _ _ _, fun a h => by simp at h, fun _ => rfl, k⟩
theorem names_root {w w' : World} {bs : List UInt8} (h : namesOf bs = some []) (k : Same w w') : NamesPost w bs (.returned (.tuple #[.slice none 0 0, .bool true])) w' := by
  have e : nl bs = [] := by unfold nl; rw [h]; rfl
  unfold NamesPost
  rw [e, h]
  exact ⟨.none, rfl, Strs.nil _ _ _, fun a h => by simp at h, fun _ => rfl, k⟩
theorem nl_len (bs : List UInt8) : (nl bs).length ≤ 24 := by
  unfold nl namesOf
  split
  · simp
  · split
    · simp
    · split
      · rename_i h1 h2 h3
        have hc : ∀ (l : List UInt8), (cut47 l).length ≤ l.length + 1 := fun l => by
          induction l with
          | nil => simp [cut47]
          | cons b r ih =>
            rw [cut47]
            split
            · simp only [List.length_cons]; omega
            · obtain ⟨h, t, e⟩ := cut47_cons r
              rw [e] at ih ⊢
              simp only [List.length_cons] at ih ⊢; omega
        have := hc bs.tail
        rw [List.length_tail] at this
        cases bs with
        | nil => simp at h2
        | cons b r => simp only [List.length_cons, List.tail_cons, Option.getD_some] at *; omega
      · simp

set_option maxRecDepth 100000 in
set_option maxHeartbeats 3200000 in
theorem names_any (s : ByteArray) (w : World) (he : Env w) : Calls Tryd.prog 22 #[.string s] w (NamesPost w (sb s)) := by
  have HE := Lib.hid he
  have hsz : (sb s).length = s.size := sb_length s
  have HSZ := Lib.hid hsz
  clear he hsz
  by_cases hroot : s = ⟨#[47]⟩
  · subst hroot
    go_enter Tryd.func22, Tryd.ntmps22
    go_wp2
    go_ret2
    exact names_root (by unfold namesOf; exact if_pos rfl) (Keeps.refl _ _)
  have HNR : Hid (¬ sb s = [47]) := Lib.hid (fun e => hroot (sb_inj (e.trans rfl)))
  have hr2 : (s.toList == [47]) = false := by rw [toList_sb]; simpa using HNR.out
  clear hroot
  by_cases hbig : 24 < (s.size : Int)
  · have HN : Hid (namesOf (sb s) = none) := Lib.hid (by unfold namesOf; rw [if_neg HNR.out, if_pos (.inl (by have := HSZ.out; omega))])
    go_enter Tryd.func22, Tryd.ntmps22
    go_wp2
    go_ret2
    exact names_none HN.out (Keeps.refl _ _)
  have HPF := Lib.hid (fun w => hasPrefix_any s w)
  by_cases hh : (sb s).head? = some 47
  case neg =>
    have HN : Hid (namesOf (sb s) = none) := Lib.hid (by unfold namesOf; rw [if_neg HNR.out, if_pos (.inr hh)])
    rw [decide_eq_false hh] at HPF
    clear hh
    go_enter Tryd.func22, Tryd.ntmps22
    go_wp2_with (first | (go_at_call 26; with_reducible refine (HPF.out _).mono ?_; rintro e w1 ⟨rfl, rfl⟩))
    go_ret2
    exact names_none HN.out (Keeps.refl _ _)
  have h1 : 1 ≤ (s.size : Int) := by
    have : sb s ≠ [] := fun e => by rw [e] at hh; simp at hh
    have h2 := List.length_pos_iff.2 this
    have := HSZ.out; omega
  have HT : Hid (sb (s.extract 1 s.size) = (sb s).tail) := Lib.hid (by
    show (s.extract 1 s.size).data.toList = _
    rw [Lib.extract_to_end, List.drop_one]; rfl)

  have HNO : Hid (namesOf (sb s) = if (cut47 (sb s).tail).all nameB then some (cut47 (sb s).tail) else none) := Lib.hid (by
    unfold namesOf
    rw [if_neg HNR.out, if_neg (by rintro (h | h); have := HSZ.out; omega; exact h hh)])
  have HSP := Lib.hid (fun w he => split_any (s.extract 1 s.size) w he (by rw [ByteArray.size_extract]; omega))
  rw [HT.out] at HSP
  have HCL : Hid ((cut47 (sb s).tail).length ≤ 1000) := Lib.hid (by
    have hc : ∀ (l : List UInt8), (cut47 l).length ≤ l.length + 1 := fun l => by
      induction l with
      | nil => simp [cut47]
      | cons b r ih =>
        rw [cut47]
        split
        · simp only [List.length_cons]; omega
        · obtain ⟨h, t, e⟩ := cut47_cons r
          rw [e] at ih ⊢
          simp only [List.length_cons] at ih ⊢; omega
    have := hc (sb s).tail
    rw [List.length_tail] at this
    have := HSZ.out; omega)
  rw [decide_eq_true hh] at HPF
  generalize cut47 (sb s).tail = L at HNO HSP HCL
  obtain ⟨n, hn⟩ : ∃ n, L.length = n := ⟨_, rfl⟩
  rw [hn] at HSP HCL
  have HN := Lib.hid hn
  have hAll : (L.map bsA).all (fun x => nameB (sb x)) = L.all nameB := by
    rw [List.all_map]
    congr 1
  have HALL := Lib.hid hAll
  have hsz24 : (s.size : Int) ≤ 24 := by omega
  clear hh hn hAll
  go_enter Tryd.func22, Tryd.ntmps22
  go_wp2_with (first | (go_at_call 26; with_reducible refine (HPF.out _).mono ?_; rintro e w1 ⟨rfl, rfl⟩))
  ((with_reducible refine (HSP.out _ HE.out).mono ?_); rintro e w2 ⟨g, rfl, hst, hg, hk2⟩)
  have HST := Lib.hid hst
  have HG := Lib.hid hg
  have HK2 := Lib.hid hk2
  have HCF := Lib.hid (fun w h => containsFunc_any (some ⟨g, 0, none⟩) n n (L.map bsA) w h (by rw [List.length_map]; exact HN.out) (by have := HCL.out; omega))
  rw [HALL.out] at HCF
  clear hst hg hk2
  go_wp2_with fail
  ((with_reducible refine (HCF.out _ HST.out).mono ?_); rintro e w3 ⟨rfl, hk3⟩)
  have HST3 := Lib.hid (HST.out.same hk3)
  have HK3 := Lib.hid (HK2.out.trans hk3 (fun _ _ e => e))
  clear hk3
  cases hall : L.all nameB with
  | false =>
    have HNN : Hid (namesOf (sb s) = none) := Lib.hid (by rw [HNO.out, hall]; rfl)
    clear hall
    go_wp2
    go_ret2
    exact names_none HNN.out HK3.out
  | true =>
    have HNN : Hid (namesOf (sb s) = some L) := Lib.hid (by rw [HNO.out, hall]; rfl)
    clear hall
    go_wp2
    go_ret2
    have e1 : nl (sb s) = L := by unfold nl; rw [HNN.out]; rfl
    unfold NamesPost
    rw [e1, HNN.out, HN.out]
    exact ⟨some ⟨g, 0, none⟩, rfl, HST3.out, fun a h => by simp only [Option.some.injEq] at h; subst h; exact ⟨rfl, HG.out⟩, fun h => by simp at h, HK3.out⟩

set_option maxRecDepth 100000 in
set_option maxHeartbeats 1600000 in
theorem check_any (s : ByteArray) (w : World) (he : Env w) : Calls Tryd.prog 12 #[.string s] w fun e w' => e = .returned (.int .i64 (if (namesOf (sb s)).isSome then 0 else 90)) ∧ Same w w' := by
  have HNM := Lib.hid (fun w he => names_any s w he)
  unfold NamesPost at HNM
  have HE := Lib.hid he
  clear he
  generalize (nl (sb s)).length = n at HNM
  generalize (namesOf (sb s)).isSome = b at HNM ⊢
  go_enter Tryd.func12, Tryd.ntmps12
  go_wp2_with fail
  ((with_reducible refine (HNM.out _ HE.out).mono ?_); rintro e w1 ⟨ao, rfl, hst, ha, hao, hk1⟩)
  have HK := Lib.hid hk1
  clear hst ha hao hk1
  cases b with
  | false =>
    go_wp2
    go_ret
    exact ⟨rfl, HK.out⟩
  | true =>
    go_wp2
    go_ret
    exact ⟨rfl, HK.out⟩

set_option maxRecDepth 100000 in
set_option maxHeartbeats 1600000 in
theorem pathSplit_any (s : ByteArray) (w : World) (he : Env w) : Calls Tryd.prog 14 #[.string s] w fun e w' => ∃ ao, e = .returned (.slice ao (nl (sb s)).length (nl (sb s)).length) ∧ Strs w' (.slice ao (nl (sb s)).length (nl (sb s)).length) ((nl (sb s)).map bsA) ∧ (∀ a, ao = some a → a.spot = none ∧ w.heap.size ≤ a.block) ∧ Same w w' := by
  have HNM := Lib.hid (fun w he => names_any s w he)
  unfold NamesPost at HNM
  have HE := Lib.hid he
  clear he
  generalize (nl (sb s)).map bsA = xs at HNM ⊢
  generalize (nl (sb s)).length = n at HNM ⊢
  generalize (namesOf (sb s)).isSome = b at HNM
  go_enter Tryd.func14, Tryd.ntmps14
  go_wp2_with fail
  ((with_reducible refine (HNM.out _ HE.out).mono ?_); rintro e w1 ⟨ao, rfl, hst, ha, hao, hk1⟩)
  have HP : Hid (Strs w1 (.slice ao n n) xs ∧ (∀ a, ao = some a → a.spot = none ∧ w.heap.size ≤ a.block) ∧ Same w w1) := Lib.hid ⟨hst, ha, hk1⟩
  clear hst ha hao hk1
  go_wp2
  go_ret
  exact ⟨ao, rfl, HP.out⟩
end Go.Proofs.YtjehihgcbbialaaDoor
