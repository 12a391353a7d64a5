/- path.Ancestors. -/
import Derived.Test.YtjehihgcbbialaaDoorPth4
namespace Go.Proofs.YtjehihgcbbialaaDoor
open Go.RowKit
set_option linter.unusedVariables false

def upsOf (l : List (List UInt8)) : List (List UInt8) := (List.range l.length).map (fun q => joinP (l.take q))
theorem upsOf_len (l : List (List UInt8)) : (upsOf l).length = l.length := by simp [upsOf]
theorem upsOf_take (l : List (List UInt8)) (j : Nat) (h : j < l.length) : (upsOf l).take (j + 1) = (upsOf l).take j ++ [joinP (l.take j)] := by
  rw [List.take_add_one]
  congr 1
  simp [upsOf, h]
def UpsPost (w : World) (l : List (List UInt8)) (e : Ending) (w' : World) : Prop :=
  ∃ ao c, e = .returned (.slice ao (upsOf l).length c) ∧ Strs w' (.slice ao (upsOf l).length c) ((upsOf l).map bsA) ∧ Same w w'
theorem own_strs {w : World} {base : Nat} {e : TypeId} {v : Value} {n : Nat} {ss : List ByteArray} (h : w.ownsRow base e 1 v n (ss.map Value.string)) (hn : ss.length = n) : ∃ ao c, v = .slice ao n c ∧ Strs w (.slice ao n c) ss := by
  rcases h.2 with ⟨rfl, h0⟩ | ⟨g, cap, cur, rfl, hb0, hg, hc1, hc2, hc3, hc4⟩
  · subst h0
    have := List.length_eq_zero_iff.1 hn
    subst this
    exact ⟨none, 0, rfl, Strs.nil _ _ _⟩
  · refine ⟨some ⟨g, 0, none⟩, cap, rfl, .inl ⟨⟨g, 0, none⟩, cap, by rw [hn], fun j s hj => ?_⟩⟩
    exact h.cells rfl j (.string s) (by simp [hj])

set_option maxRecDepth 100000 in
set_option maxHeartbeats 6400000 in
theorem ancestors_any (s : ByteArray) (w : World) (he : Env w) : Calls Tryd.prog 19 #[.string s] w (UpsPost w (nl (sb s))) := by
  have HNM := Lib.hid (fun w he => names_any s w he)
  unfold NamesPost at HNM
  have HE := Lib.hid he
  have HNJ := Lib.hid (nl_join (sb s))
  have HL := Lib.hid (nl_len (sb s))
  clear he
  generalize nl (sb s) = l at HNM HNJ HL ⊢
  generalize (namesOf (sb s)).isSome = b at HNM
  obtain ⟨n, hn⟩ : ∃ n, l.length = n := ⟨_, rfl⟩
  rw [hn] at HNM HL
  have HN := Lib.hid hn
  have HUL : Hid ((upsOf l).length = n) := Lib.hid ((upsOf_len l).trans hn)
  have hn24 : n ≤ 24 := HL.out
  obtain ⟨ie, hie, hz0, hz1, hz2⟩ := info_partsV laysSplit.i9
  have HZ := Lib.hid hz0
  clear hn hz0
  go_enter Tryd.func19, Tryd.ntmps19
  go_wp2_with fail
  ((with_reducible refine (HNM.out _ HE.out).mono ?_); rintro e w1 ⟨ao, rfl, hst, ha, hao, hkk⟩)
  have HK := Lib.hid hkk
  have HST := Lib.hid hst
  have HSP := Lib.hid (fun a h => (ha a h).1)
  clear hst ha hao hkk
  go_wp2
  go_loopw [5, 14] (fun tv i wr => ∃ j : Nat, j ≤ n ∧ i = .int .i64 j ∧ Hid (wr.ownsRow w1.heap.size 9 1 tv j ((((upsOf l).take j).map bsA).map Value.string)) ∧ Hid (Same w1 wr)) (fun _ i _ => n - (intOf i).toNat)
  case atStart => exact ⟨0, by omega, rfl, Lib.hid (World.ownsRow_nil _ _ _ _), Lib.hid (Keeps.refl _ _)⟩
  case round =>
    obtain ⟨j, hj, rfl, HO, HS⟩ := hrel
    by_cases hlt : j < n
    · have hjl : j < l.length := by rw [HN.out]; exact hlt
      have HTK : Hid ((upsOf l).take (j + 1) = (upsOf l).take j ++ [joinP (l.take j)]) := Lib.hid (upsOf_take l j hjl)
      have HJ := Lib.hid (pjoin_any ao j n (l.take j) wr (by rw [List.map_take]; exact (HST.out.same HS.out).take (by rw [List.length_map]; exact HN.out) j n (by omega)) (by rw [List.length_take]; omega) HSP.out (by omega) (by omega) (HNJ.out _ (fun x hx => List.mem_of_mem_take hx) (by rw [List.length_take]; omega)))
      obtain ⟨z, hz⟩ : ∃ z, bsA (joinP (l.take j)) = z := ⟨_, rfl⟩
      rw [hz] at HJ
      have HZZ := Lib.hid hz
      have hjn : (j : Int) < (n : Int) := by omega
      have hjn2 : (j : Int) ≤ (n : Int) := by omega
      clear hjl hz
      go_wp2_with fail
      ((with_reducible refine HJ.out.mono ?_); rintro e w2 ⟨rfl, hk2⟩)
      have HO2 := Lib.hid (own_keeps hk2 HO.out (fun _ _ e => e))
      have HS2 := Lib.hid (HS.out.trans hk2 (fun _ _ e => e))
      obtain ⟨wa, hwa⟩ : ∃ wa, w2.alloc (.cells #[.string z] 9) = wa := ⟨_, rfl⟩
      have HWA := Lib.hid hwa
      obtain ⟨g4, c4, w4, hrun, hown, hgr, hat, hlt4⟩ := run_append_lies (P := Tryd.prog) wa 23 23 w1.heap.size 9 ie _ 1 16 Tryd.underlying23 hie HZ.out hz1 hz2 rfl (by omega) _ j _ (by rw [← hwa]; exact own_keeps ((Keeps.refl (fun _ => False) w2).alloc _) HO2.out (fun _ _ e => e)) ⟨w2.heap.size, 0, none⟩ 1 1 [.string z] rfl
        (fun k u hk => by
          rw [← hwa, Addr.add_mid, Nat.zero_add, cell_of_row _ _ _ _ _ _ (heap_alloc_new w2 _)]
          simpa using hk) (by simp [Value.oneCell']) (by omega) (by unfold maxLen; omega) (by omega) (by rw [← hwa]; have := HS2.out.size; simp; omega) wa.heap.size rfl
      have hk4 : Same w1 w4 := by
        rw [← hwa] at hgr
        exact (HS2.out.alloc _).grown hgr (fun q e1 e2 => by have := (HO2.out.lt q e1).1; omega)
      have HRUN := Lib.hid hrun
      have HO4 : Hid (w4.ownsRow w1.heap.size 9 1 (.slice (some ⟨g4, 0, none⟩) (j + 1) c4) (j + 1) ((((upsOf l).take (j + 1)).map bsA).map Value.string)) := Lib.hid (by rw [HTK.out, List.map_append, List.map_append]; simp only [List.map_cons, List.map_nil, HZZ.out]; exact hown)
      have HK4 := Lib.hid hk4
      clear hk2 hwa hrun hown hgr hat hlt4 hk4
      go_wp2_with (first
        | (at_builtin; refine wpList_append_run (by rfl) (.tmp 17) (.tmp 22) 23 (by rfl) _ _ _ w4 (by rfl) (by rfl) (by rw [HWA.out]; exact HRUN.out) ?_))
      go_roundw
      case rel => exact ⟨j + 1, by omega, by go_num, HO4, HK4⟩
      case measure => simp [intOf]; omega
    · obtain rfl : j = n := by omega
      have hjn : ¬ (j : Int) < (j : Int) := by omega
      have HF : Hid (∃ bo c, u5 = .slice bo (upsOf l).length c ∧ Strs wr (.slice bo (upsOf l).length c) ((upsOf l).map bsA)) := Lib.hid (by
        have h1 := HO.out
        rw [List.take_of_length_le (by rw [HUL.out]; exact Nat.le_refl _)] at h1
        rw [HUL.out]
        exact own_strs h1 (by rw [List.length_map, HUL.out]))
      have HW := Lib.hid (HK.out.trans HS.out (fun _ _ e => e))
      go_wp2
      go_ret
      obtain ⟨bo, c, h1, h2⟩ := HF.out
      exact ⟨bo, c, by rw [← h1]; rfl, h2, HW.out⟩
end Go.Proofs.YtjehihgcbbialaaDoor
