/- The document's own Split. -/
import Derived.Test.YtjehihgcbbialaaDoorPth15
namespace Go.Proofs.YtjehihgcbbialaaDoor
open Go.RowKit
set_option linter.unusedVariables false

def RSplit (w : World) (bs : List UInt8) (e : Ending) (w' : World) : Prop :=
  ∃ ao c, e = .returned (.tuple #[.slice ao (nl bs).length c, .bool (namesOf bs).isSome]) ∧ Strs w' (.slice ao (nl bs).length c) ((nl bs).map bsA) ∧ (nl bs).length ≤ c ∧ Same w w'
theorem rsplit_none {w w' : World} {bs : List UInt8} (ao : Option Addr) (c : Nat) (h : namesOf bs = none) (k : Same w w') : RSplit w bs (.returned (.tuple #[.slice ao 0 c, .bool false])) w' := by
  have e : nl bs = [] := by unfold nl; rw [h]; rfl
  unfold RSplit
  rw [e, h]
  exact ⟨ao, c, rfl, Strs.nil _ _ _, Nat.zero_le _, k⟩
theorem rsplit_root {w w' : World} {bs : List UInt8} (ao : Option Addr) (c : Nat) (h : namesOf bs = some []) (k : Same w w') : RSplit w bs (.returned (.tuple #[.slice ao 0 c, .bool true])) w' := by
  have e : nl bs = [] := by unfold nl; rw [h]; rfl
  unfold RSplit
  rw [e, h]
  exact ⟨ao, c, rfl, Strs.nil _ _ _, Nat.zero_le _, k⟩
theorem cut47_len (l : List UInt8) : (cut47 l).length ≤ l.length + 1 := by
  induction l with
  | nil => simp [cut47]
  | cons b r ih =>
    rw [cut47]
    split
    · simp only [List.length_cons]; omega
    · obtain ⟨h, t, e⟩ := cut47_cons r
      rw [e] at ih ⊢
      simp only [List.length_cons] at ih ⊢; omega
theorem cutAt_len {T : List UInt8} {L : List (List UInt8)} {f p : Nat} (h : CutAt T L f p) : L.length ≤ T.length + 1 := by
  have h0 := cut47_len T
  rcases h.2 with ⟨_, _, h1, _⟩ | ⟨_, h1⟩
  · rw [h1, List.length_append] at h0; omega
  · rw [h1] at h0; exact h0
theorem extract_tail (s : ByteArray) (f p : Nat) (h1 : 1 ≤ f) (h2 : f ≤ p) : sb (s.extract f p) = ((sb s).tail.drop (f - 1)).take ((p - 1) - (f - 1)) := by
  have e : sb (s.extract f p) = ((sb s).drop f).take (p - f) := by
    unfold sb
    rw [ByteArray.data_extract, Array.toList_extract]
  rw [e, ← List.drop_one, List.drop_drop, show 1 + (f - 1) = f by omega, show p - 1 - (f - 1) = p - f by omega]
set_option maxRecDepth 100000 in
set_option maxHeartbeats 3200000 in
theorem refSplit_any (s : ByteArray) (w : World) : Calls Tryd.prog 8 #[.string s] w (RSplit w (sb s)) := by
  have hsz : (sb s).length = s.size := sb_length s
  have HSZ := Lib.hid hsz
  clear hsz
  by_cases hroot : s = ⟨#[47]⟩
  · subst hroot
    go_enter Tryd.func8, Tryd.ntmps8
    go_wp2
    go_ret2
    exact rsplit_root _ _ (by unfold namesOf; exact if_pos rfl) ((Keeps.refl _ _).alloc _)
  have HNR : Hid (¬ sb s = [47]) := Lib.hid (fun e => hroot (sb_inj (e.trans rfl)))
  have hr2 : (s.toList == [47]) = false := by rw [toList_sb]; simpa using HNR.out
  clear hroot
  by_cases hsm : (s.size : Int) < 2
  · have HN : Hid (namesOf (sb s) = none) := Lib.hid (by
      unfold namesOf
      rw [if_neg HNR.out, if_pos (.inr (fun hh => HNR.out (by
        have h1 := HSZ.out
        cases hb : sb s with
        | nil => rw [hb] at hh; simp at hh
        | cons b r =>
          rw [hb] at hh h1
          simp only [List.head?_cons, Option.some.injEq] at hh
          simp only [List.length_cons] at h1
          have : r = [] := List.length_eq_zero_iff.1 (by omega)
          rw [hh, this])))])
    go_enter Tryd.func8, Tryd.ntmps8
    go_wp2
    go_ret2
    exact rsplit_none _ _ HN.out ((Keeps.refl _ _).alloc _)
  by_cases hbig : 24 < (s.size : Int)
  · have HN : Hid (namesOf (sb s) = none) := Lib.hid (by unfold namesOf; rw [if_neg HNR.out, if_pos (.inl (by have := HSZ.out; omega))])
    go_enter Tryd.func8, Tryd.ntmps8
    go_wp2
    go_ret2
    exact rsplit_none _ _ HN.out ((Keeps.refl _ _).alloc _)
  have h0 : 0 < s.size := by omega
  have HHD : Hid ((sb s).head? = some (s[0]'h0)) := Lib.hid (by
    have : (s[0]'h0) = (sb s)[0]'(by rw [HSZ.out]; exact h0) := rfl
    rw [this, List.head?_eq_getElem?, List.getElem?_eq_getElem])
  by_cases hh : (((s[0]'h0).toNat : Nat) : Int) = 47
  case neg =>
    have HN : Hid (namesOf (sb s) = none) := Lib.hid (by
      unfold namesOf
      rw [if_neg HNR.out, if_pos (.inr (fun e => hh (by rw [HHD.out] at e; simp only [Option.some.injEq] at e; rw [e]; rfl)))])
    have hh2 : ((((s[0]'h0).toNat : Nat) : Int) != 47) = true := by simpa using hh
    clear hh
    go_enter Tryd.func8, Tryd.ntmps8
    go_wp2
    go_ret2
    exact rsplit_none _ _ HN.out ((Keeps.refl _ _).alloc _)
  have hh2 : ((((s[0]'h0).toNat : Nat) : Int) != 47) = false := by simpa using hh
  go_enter Tryd.func8, Tryd.ntmps8
  go_wp2
  have HNO : Hid (namesOf (sb s) = if (cut47 (sb s).tail).all nameB then some (cut47 (sb s).tail) else none) := Lib.hid (by
    unfold namesOf
    rw [if_neg HNR.out, if_neg (by
      rintro (h | h)
      · have := HSZ.out; omega
      · refine h ?_
        rw [HHD.out]
        congr 1
        exact UInt8.toNat_inj.1 (by have : (47 : UInt8).toNat = 47 := rfl; omega))])
  obtain ⟨T, hT⟩ : ∃ T, (sb s).tail = T := ⟨_, rfl⟩
  have HTL : Hid (T.length = s.size - 1) := Lib.hid (by rw [← hT, List.length_tail, HSZ.out])
  have HTG : Hid (∀ q (h : q + 1 < s.size), T[q]? = some (s[q + 1]'h)) := Lib.hid (fun q h => by
    rw [← hT, List.getElem?_tail, List.getElem?_eq_getElem (by rw [HSZ.out]; exact h)]; rfl)
  have HEX : Hid (∀ f p, 1 ≤ f → f ≤ p → sb (s.extract f p) = (T.drop (f - 1)).take ((p - 1) - (f - 1))) := Lib.hid (fun f p a b => by rw [← hT]; exact extract_tail s f p a b)
  rw [hT] at HNO
  have HT := Lib.hid hT
  clear hT
  obtain ⟨ie, hie, hz0, hz1, hz2⟩ := info_partsV laysSplit.i9
  have HZ0 := Lib.hid hz0
  clear hz0
  go_loopw [4, 5, 6] (fun lv f i wr => ∃ (L : List (List UInt8)) (F p : Nat), f = .int .i64 F ∧ i = .int .i64 p ∧ 1 ≤ F ∧ F ≤ p ∧ p ≤ s.size + 1 ∧ Hid (CutAt T L (F - 1) (p - 1)) ∧ Hid (wr.ownsRow w.heap.size 9 1 lv L.length ((L.map bsA).map Value.string)) ∧ Hid (Same w wr)) (fun _ _ i _ => s.size + 1 - (intOf i).toNat)
  case atStart => exact ⟨[], 1, 1, rfl, rfl, by omega, by omega, by omega, Lib.hid (cutAt_start T), Lib.hid (own_lit w 9 [] 0 rfl (by omega)), Lib.hid ((Keeps.refl _ _).alloc _)⟩
  case round =>
    obtain ⟨L, F, p, rfl, rfl, hF1, hFp, hp, HC, HO, HS⟩ := hrel
    by_cases hps : p < s.size
    · have hpp : (p : Int) ≤ (s.size : Int) := by omega
      have hpl : (p : Int) < (s.size : Int) := by omega
      by_cases hb : (((s[p]'hps).toNat : Nat) : Int) = 47
      · have hb2 : ((((s[p]'hps).toNat : Nat) : Int) != 47) = false := by simpa using hb
        have HB47 : Hid (p - 1 < T.length → T[p - 1]? = some 47) := Lib.hid (fun _ => by
          have h1 := HTG.out (p - 1) (by omega)
          simp only [show p - 1 + 1 = p by omega] at h1
          rw [h1]
          congr 1
          exact UInt8.toNat_inj.1 (by have : (47 : UInt8).toNat = 47 := rfl; omega))
        have HPL : Hid (p - 1 ≤ T.length) := Lib.hid (by have := HTL.out; omega)
        obtain ⟨X, hX⟩ : ∃ X, (T.drop (F - 1)).take ((p - 1) - (F - 1)) = X := ⟨_, rfl⟩
        obtain ⟨z, hz⟩ : ∃ z, s.extract F p = z := ⟨_, rfl⟩
        have HZX : Hid (sb z = X) := Lib.hid (by rw [← hz, ← hX]; exact HEX.out F p hF1 hFp)
        have HZ2 : Hid (bsA X = z) := Lib.hid (by rw [← HZX.out]; exact bsA_sb z)
        have HBAD : Hid (nameB X = false → namesOf (sb s) = none) := Lib.hid (fun h => by
          rw [← hX] at h
          rw [HNO.out, cutAt_none HC.out HPL.out HB47.out h]; rfl)
        have HGOOD : Hid (nameB X = true → CutAt T (L ++ [X]) (p - 1 + 1) (p - 1 + 1)) := Lib.hid (fun h => by
          rw [← hX] at h ⊢
          exact cutAt_name HC.out HPL.out HB47.out h)
        have HNM := Lib.hid (fun w => refName_any z w)
        rw [HZX.out] at HNM
        have hFi : (F : Int) ≤ (p : Int) := by omega
        have hLl : L.length ≤ 1000 := by
          have h1 := cutAt_len HC.out
          have h2 := HTL.out
          omega
        clear hX hb
        cases hnb : nameB X with
        | false =>
          have HN : Hid (namesOf (sb s) = none) := Lib.hid (HBAD.out hnb)
          rw [hnb] at HNM
          clear hnb
          go_wp2_with fail
          ((with_reducible refine (HNM.out _).mono ?_); rintro e w2 ⟨rfl, hk2⟩)
          have HK2 := Lib.hid (HS.out.trans hk2 (fun _ _ e => e))
          clear hk2
          go_wp2
          go_ret2
          exact rsplit_none _ _ HN.out (HK2.out.alloc _)
        | true =>
          have HC2 := Lib.hid (HGOOD.out hnb)
          rw [hnb] at HNM
          clear hnb
          go_wp2_with fail
          ((with_reducible refine (HNM.out _).mono ?_); rintro e w2 ⟨rfl, hk2⟩)
          have HO2 := Lib.hid (own_keeps hk2 HO.out (fun _ _ e => e))
          have HS2 := Lib.hid (HS.out.trans hk2 (fun _ _ e => e))
          obtain ⟨wa, hwa⟩ : ∃ wa, w2.alloc (.cells #[.string z] 9) = wa := ⟨_, rfl⟩
          have HWA := Lib.hid hwa
          obtain ⟨g4, c4, w4, hrun, hown, hgr, hat, hlt4⟩ := run_append_lies (P := Tryd.prog) wa 23 23 w.heap.size 9 ie _ 1 16 Tryd.underlying23 hie HZ0.out hz1 hz2 rfl (by omega) _ L.length _ (by rw [← hwa]; exact own_keeps ((Keeps.refl (fun _ => False) w2).alloc _) HO2.out (fun _ _ e => e)) ⟨w2.heap.size, 0, none⟩ 1 1 [.string z] rfl
            (fun k u hk => by
              rw [← hwa, Addr.add_mid, Nat.zero_add, cell_of_row _ _ _ _ _ _ (heap_alloc_new w2 _)]
              simpa using hk) (by simp [Value.oneCell']) (by omega) (by unfold maxLen; omega) (by omega) (by rw [← hwa]; have := HS2.out.size; simp; omega) wa.heap.size rfl
          have hk4 : Same w w4 := by
            rw [← hwa] at hgr
            exact (HS2.out.alloc _).grown hgr (fun q e1 e2 => by have := (HO2.out.lt q e1).1; omega)
          have HRUN := Lib.hid hrun
          have HO4 : Hid (w4.ownsRow w.heap.size 9 1 (.slice (some ⟨g4, 0, none⟩) (L.length + 1) c4) (L ++ [X]).length (((L ++ [X]).map bsA).map Value.string)) := Lib.hid (by
            rw [List.length_append, List.map_append, List.map_append]
            simp only [List.map_cons, List.map_nil, HZ2.out]
            exact hown)
          have HK4 := Lib.hid hk4
          clear hk2 hwa hrun hown hgr hat hlt4 hk4
          go_wp2_with (first
            | (at_builtin; refine wpList_append_run (by rfl) (.tmp 48) (.tmp 53) 23 (by rfl) _ _ _ w4 (by rfl) (by rfl) (by rw [HWA.out]; exact HRUN.out) ?_))
          go_roundw
          case rel => exact ⟨L ++ [X], p + 1, p + 1, by go_num, by go_num, by omega, by omega, by omega, Lib.hid (by have := HC2.out; rwa [show p - 1 + 1 = p + 1 - 1 by omega] at this), HO4, HK4⟩
          case measure => simp [intOf]; omega
      · have HC2 : Hid (CutAt T L (F - 1) (p - 1 + 1)) := Lib.hid (cutAt_on HC.out (by have := HTL.out; omega) (fun e => hb (by
          have h1 := HTG.out (p - 1) (by omega)
          rw [h1] at e
          simp only [Option.some.injEq, show p - 1 + 1 = p by omega] at e
          rw [e]; rfl)))
        have hb2 : ((((s[p]'hps).toNat : Nat) : Int) != 47) = true := by simpa using hb
        clear hb
        go_wp2
        go_roundw
        case rel => exact ⟨L, F, p + 1, rfl, by go_num, hF1, by omega, by omega, Lib.hid (by have := HC2.out; rwa [show p - 1 + 1 = p + 1 - 1 by omega] at this), HO, HS⟩
        case measure => simp [intOf]; omega
    · by_cases hpe : p = s.size
      · have hpi : (p : Int) ≤ (s.size : Int) := by omega
        have hpj : ¬ (p : Int) < (s.size : Int) := by omega
        have HB47 : Hid (p - 1 < T.length → T[p - 1]? = some 47) := Lib.hid (fun h => by have := HTL.out; omega)
        have HPL : Hid (p - 1 ≤ T.length) := Lib.hid (by have := HTL.out; omega)
        obtain ⟨X, hX⟩ : ∃ X, (T.drop (F - 1)).take ((p - 1) - (F - 1)) = X := ⟨_, rfl⟩
        obtain ⟨z, hz⟩ : ∃ z, s.extract F p = z := ⟨_, rfl⟩
        have HZX : Hid (sb z = X) := Lib.hid (by rw [← hz, ← hX]; exact HEX.out F p hF1 hFp)
        have HZ2 : Hid (bsA X = z) := Lib.hid (by rw [← HZX.out]; exact bsA_sb z)
        have HBAD : Hid (nameB X = false → namesOf (sb s) = none) := Lib.hid (fun h => by
          rw [← hX] at h
          rw [HNO.out, cutAt_none HC.out HPL.out HB47.out h]; rfl)
        have HGOOD : Hid (nameB X = true → CutAt T (L ++ [X]) (p - 1 + 1) (p - 1 + 1)) := Lib.hid (fun h => by
          rw [← hX] at h ⊢
          exact cutAt_name HC.out HPL.out HB47.out h)
        have HNM := Lib.hid (fun w => refName_any z w)
        rw [HZX.out] at HNM
        have hFi : (F : Int) ≤ (p : Int) := by omega
        have hLl : L.length ≤ 1000 := by
          have h1 := cutAt_len HC.out
          have h2 := HTL.out
          omega
        clear hX hps hpe
        cases hnb : nameB X with
        | false =>
          have HN : Hid (namesOf (sb s) = none) := Lib.hid (HBAD.out hnb)
          rw [hnb] at HNM
          clear hnb
          go_wp2_with fail
          ((with_reducible refine (HNM.out _).mono ?_); rintro e w2 ⟨rfl, hk2⟩)
          have HK2 := Lib.hid (HS.out.trans hk2 (fun _ _ e => e))
          clear hk2
          go_wp2
          go_ret2
          exact rsplit_none _ _ HN.out (HK2.out.alloc _)
        | true =>
          have HC2 := Lib.hid (HGOOD.out hnb)
          rw [hnb] at HNM
          clear hnb
          go_wp2_with fail
          ((with_reducible refine (HNM.out _).mono ?_); rintro e w2 ⟨rfl, hk2⟩)
          have HO2 := Lib.hid (own_keeps hk2 HO.out (fun _ _ e => e))
          have HS2 := Lib.hid (HS.out.trans hk2 (fun _ _ e => e))
          obtain ⟨wa, hwa⟩ : ∃ wa, w2.alloc (.cells #[.string z] 9) = wa := ⟨_, rfl⟩
          have HWA := Lib.hid hwa
          obtain ⟨g4, c4, w4, hrun, hown, hgr, hat, hlt4⟩ := run_append_lies (P := Tryd.prog) wa 23 23 w.heap.size 9 ie _ 1 16 Tryd.underlying23 hie HZ0.out hz1 hz2 rfl (by omega) _ L.length _ (by rw [← hwa]; exact own_keeps ((Keeps.refl (fun _ => False) w2).alloc _) HO2.out (fun _ _ e => e)) ⟨w2.heap.size, 0, none⟩ 1 1 [.string z] rfl
            (fun k u hk => by
              rw [← hwa, Addr.add_mid, Nat.zero_add, cell_of_row _ _ _ _ _ _ (heap_alloc_new w2 _)]
              simpa using hk) (by simp [Value.oneCell']) (by omega) (by unfold maxLen; omega) (by omega) (by rw [← hwa]; have := HS2.out.size; simp; omega) wa.heap.size rfl
          have hk4 : Same w w4 := by
            rw [← hwa] at hgr
            exact (HS2.out.alloc _).grown hgr (fun q e1 e2 => by have := (HO2.out.lt q e1).1; omega)
          have HRUN := Lib.hid hrun
          have HO4 : Hid (w4.ownsRow w.heap.size 9 1 (.slice (some ⟨g4, 0, none⟩) (L.length + 1) c4) (L ++ [X]).length (((L ++ [X]).map bsA).map Value.string)) := Lib.hid (by
            rw [List.length_append, List.map_append, List.map_append]
            simp only [List.map_cons, List.map_nil, HZ2.out]
            exact hown)
          have HK4 := Lib.hid hk4
          clear hk2 hwa hrun hown hgr hat hlt4 hk4
          go_wp2_with (first
            | (at_builtin; refine wpList_append_run (by rfl) (.tmp 48) (.tmp 53) 23 (by rfl) _ _ _ w4 (by rfl) (by rfl) (by rw [HWA.out]; exact HRUN.out) ?_))
          go_roundw
          case rel => exact ⟨L ++ [X], p + 1, p + 1, by go_num, by go_num, by omega, by omega, by omega, Lib.hid (by have := HC2.out; rwa [show p - 1 + 1 = p + 1 - 1 by omega] at this), HO4, HK4⟩
          case measure => simp [intOf]; omega
      · obtain rfl : p = s.size + 1 := by omega
        have hpp : ¬ ((s.size + 1 : Nat) : Int) ≤ (s.size : Int) := by omega
        have HE := Lib.hid (cutAt_end (T := T) (L := L) (f := F - 1) (by have := HC.out; have h2 := HTL.out; rwa [show s.size + 1 - 1 = T.length + 1 by omega] at this))
        have HNS : Hid (namesOf (sb s) = some L) := Lib.hid (by rw [HNO.out, HE.out.1, if_pos HE.out.2])
        have HF : Hid (∃ bo c, u4 = .slice bo L.length c ∧ Strs wr (.slice bo L.length c) (L.map bsA) ∧ L.length ≤ c) := Lib.hid (by
          obtain ⟨bo, c, h1, h2⟩ := own_strs HO.out (by rw [List.length_map])
          refine ⟨bo, c, h1, h2, ?_⟩
          rcases HO.out.2 with ⟨_, h0⟩ | ⟨g, cap, cur, e, _, _, hc, _⟩
          · omega
          · rw [h1] at e
            injection e with _ _ e3
            omega)
        go_wp2
        go_ret2
        obtain ⟨bo, c, h1, h2, h3⟩ := HF.out
        have e1 : nl (sb s) = L := by unfold nl; rw [HNS.out]; rfl
        unfold RSplit
        rw [e1, HNS.out]
        exact ⟨bo, c, by rw [← h1]; rfl, h2, h3, HS.out⟩
end Go.Proofs.YtjehihgcbbialaaDoor
