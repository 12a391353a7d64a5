/- What (*disk.Disk).Flush does. -/
import Derived.Test.YtoimhniijeafaaaDk3
namespace Go.Proofs.Ytoimhniijeafaaa
open Go.RowKit
set_option linter.unusedVariables false

/-- What lasts, when open writes have come into it. -/
def applied (L : List (List UInt8)) (O : List (Nat × List UInt8)) : List (List UInt8) := O.foldl (fun L o => L.set o.1 o.2) L
theorem applied_len (O : List (Nat × List UInt8)) : ∀ L, (applied L O).length = L.length := by
  induction O with
  | nil => intro L; rfl
  | cons o r ih => intro L; show (applied (L.set o.1 o.2) r).length = _; rw [ih, List.length_set]
theorem applied_snoc (L : List (List UInt8)) (O : List (Nat × List UInt8)) (j : Nat) (h : j < O.length) : applied L (O.take (j + 1)) = (applied L (O.take j)).set O[j].1 O[j].2 := by
  unfold applied
  rw [List.take_succ_eq_append_getElem h, List.foldl_append]
  rfl
def DSt.flushed (s : DSt) : DSt := if s.down = true then s else if s.power = true then { s.spent with L := applied s.L s.O, O := [] } else s.spent
def DSt.fcode (s : DSt) : Int := if s.down = true then 3 else if s.power = true then 0 else 3

/-- A sector is stored. -/
theorem DiskAt.put {w : World} {D g c : Nat} {ov : Value} {s : DSt} (h : DiskAt w D (.slice (some ⟨g, 0, none⟩) s.L.length c) ov s) (i : Nat) (hi : i < s.L.length) (y : List UInt8) (hy : y.length = 512) :
    ∃ cur, w.heap[g]? = some (.cells cur 59 (0, 0)) ∧ i * 512 + 512 ≤ cur.size ∧
      DiskAt (w.setRow g (cur.toList.take (i * 512) ++ u8s y ++ cur.toList.drop (i * 512 + (u8s y).length)).toArray) D (.slice (some ⟨g, 0, none⟩) s.L.length c) ov { s with L := s.L.set i y } ∧
      DStep w (w.setRow g (cur.toList.take (i * 512) ++ u8s y ++ cur.toList.drop (i * 512 + (u8s y).length)).toArray) D (.slice (some ⟨g, 0, none⟩) s.L.length c) ov (.slice (some ⟨g, 0, none⟩) s.L.length c) ov := by
  obtain ⟨cur, h1, h2, h3⟩ := OwnRow.put h.las (fun x hx => by rw [u8s_length]; exact h.sec x hx) i hi y (by rw [u8s_length]; exact hy)
  have hk : Keeps (fun k => k = g) w (w.setRow g (cur.toList.take (i * 512) ++ u8s y ++ cur.toList.drop (i * 512 + (u8s y).length)).toArray) := (Keeps.refl _ _).setRow _ _ (.inr rfl)
  refine ⟨cur, h1, h2, ⟨?_, ?_, ?_, h.nl, h.no, h.nx, ?_, ?_, ?_, h.lft⟩, hk.mono (fun k _ e => .inr (.inl (by rw [e]; rfl))), fun _ e => .inl e⟩
  · exact h.obj.keep hk (fun e => h.nl (by rw [e]; rfl))
  · exact h3
  · exact h.opn.keep hk (fun k e e2 => h.nx g rfl (by rw [e, e2]))
  · intro x hx
    rcases List.mem_or_eq_of_mem_set hx with hx | rfl
    · exact h.sec x hx
    · exact hy
  · intro o ho
    rw [List.length_set]
    exact h.wr o ho
  · rw [List.length_set]
    exact h.few
theorem DiskAt.put' {w : World} {D g c N : Nat} {ov : Value} {s : DSt} (hN : s.L.length = N) (h : DiskAt w D (.slice (some ⟨g, 0, none⟩) N c) ov s) (i : Nat) (hi : i < N) (y : List UInt8) (hy : y.length = 512) :
    ∃ cur, w.heap[g]? = some (.cells cur 59 (0, 0)) ∧ i * 512 + 512 ≤ cur.size ∧
      DiskAt (w.setRow g (cur.toList.take (i * 512) ++ u8s y ++ cur.toList.drop (i * 512 + (u8s y).length)).toArray) D (.slice (some ⟨g, 0, none⟩) N c) ov { s with L := s.L.set i y } ∧
      DStep w (w.setRow g (cur.toList.take (i * 512) ++ u8s y ++ cur.toList.drop (i * 512 + (u8s y).length)).toArray) D (.slice (some ⟨g, 0, none⟩) N c) ov (.slice (some ⟨g, 0, none⟩) N c) ov := by
  subst hN
  exact h.put i hi y hy
def wzero : List Value := .int .i64 0 :: u8s noughts
theorem wzero_size : wzero.toArray.size = 513 := by simp [wzero, u8s_length, noughts_length]
theorem Try.zeroWrite (w : World) : (zeroValue 64).run Try.prog w = .ok (.agg wzero.toArray) w := by kernel_rfl

set_option maxRecDepth 100000 in
set_option maxHeartbeats 3200000 in
theorem flush_no (w : World) (D : Nat) (lv ov : Value) (s : DSt) (h : DiskAt w D lv ov s) (hn : s.down = true ∨ s.power = false) :
    Calls Try.prog 14 #[.pointer (some ⟨D, 0, none⟩)] w fun e w' => e = .returned (.int .i64 s.fcode) ∧ DiskAt w' D lv ov s.flushed ∧ DStep w w' D lv ov lv ov := by
  obtain ⟨c0, c1, c2, c3, c4⟩ := h.cells
  have H := Lib.hid h
  cases hd : s.down with
  | true =>
    have e1 : s.fcode = 3 := by unfold DSt.fcode; rw [if_pos hd]
    have e2 : s.flushed = s := by unfold DSt.flushed; rw [if_pos hd]
    rw [e1, e2]
    rw [hd] at c4
    clear h hn hd e1 e2 c0 c1 c2 c3
    go_enter Try.func14, Try.ntmps14
    go_wp2
    go_ret
    exact ⟨rfl, H.out, DStep.of_same (Keeps.refl _ _)⟩
  | false =>
    have hp : s.power = false := by
      rcases hn with hn | hn
      · rw [hd] at hn; cases hn
      · exact hn
    have e1 : s.fcode = 3 := by unfold DSt.fcode; rw [if_neg (by simp [hd]), if_neg (by simp [hp])]
    have e2 : s.flushed = s.spent := by unfold DSt.flushed; rw [if_neg (by simp [hd]), if_neg (by simp [hp])]
    have e3 : (if s.power = true then (0 : Int) else 3) = 3 := by rw [if_neg (by simp [hp])]
    rw [e1, e2]
    rw [hd] at c4
    have HE3 := Lib.hid e3
    clear h hn hd e1 e2 e3 hp c0 c1 c2 c3
    go_enter Try.func14, Try.ntmps14
    go_wp2_with fail
    refine (spend_ok _ D lv _ _ H.out).mono ?_
    rintro e w1 ⟨he, hd1, hs1⟩
    rw [HE3.out] at he
    subst he
    have HD1 := Lib.hid hd1
    have HS1 := Lib.hid hs1
    clear hd1 hs1
    go_wp2
    go_ret
    exact ⟨rfl, HD1.out, HS1.out⟩

set_option maxRecDepth 100000 in
set_option maxHeartbeats 6400000 in
theorem flush_yes (w : World) (D : Nat) (lv ov : Value) (s : DSt) (h : DiskAt w D lv ov s) (hd : s.down = false) (hp : s.power = true) (hO : s.O.length ≤ 100000) :
    Calls Try.prog 14 #[.pointer (some ⟨D, 0, none⟩)] w fun e w' => e = .returned (.int .i64 s.fcode) ∧ DiskAt w' D lv (.slice none 0 0) s.flushed ∧ DStep w w' D lv ov lv (.slice none 0 0) := by
  obtain ⟨c0, c1, c2, c3, c4⟩ := h.cells
  have H := Lib.hid h
  have e1 : s.fcode = 0 := by unfold DSt.fcode; rw [if_neg (by simp [hd]), if_pos hp]
  have e2 : s.flushed = { s.spent with L := applied s.L s.O, O := [] } := by unfold DSt.flushed; rw [if_neg (by simp [hd]), if_pos hp]
  have e3 : (if s.power = true then (0 : Int) else 3) = 0 := by rw [if_pos hp]
  have e4 : s.spent.L = s.L ∧ s.spent.O = s.O := by unfold DSt.spent; split <;> (try split) <;> exact ⟨rfl, rfl⟩
  have e5 : applied s.L s.O = applied s.spent.L s.spent.O := by rw [e4.1, e4.2]
  have hO2 : s.spent.O.length ≤ 100000 := by rw [e4.2]; exact hO
  rw [e1, e2, e5]
  rw [hd] at c4
  have HE3 := Lib.hid e3
  obtain ⟨t, ht⟩ : ∃ t, s.spent = t := ⟨_, rfl⟩
  rw [ht] at hO2 ⊢
  have HTT := Lib.hid ht
  obtain ⟨L, O, lim, left, dn⟩ := t
  clear h hd e1 e2 e3 e5 hp c0 c1 c2 c3 hO ht
  go_enter Try.func14, Try.ntmps14
  go_wp2_with fail
  refine (spend_ok _ D lv _ _ H.out).mono ?_
  rintro e w1 ⟨he, hd1, hs1⟩
  rw [HE3.out] at he
  subst he
  rw [HTT.out] at hd1
  clear e4 H HE3 c4 HTT
  have hOl : O.length ≤ 100000 := hO2
  clear hO2
  have HD1 := Lib.hid hd1
  have HS1 := Lib.hid hs1
  obtain ⟨c0, c1, c2, c3, _⟩ := hd1.cells
  obtain ⟨oo, oc, rfl, hoc, hof⟩ := hd1.opn.form
  obtain ⟨lo, lc, rfl, hlc, hlf⟩ := hd1.las.form
  simp only at c1 hoc hlc
  have hzs := Try.zeroWrite
  have HWT : Hid ((Try.prog.info? 64).map (·.size) = some 513) := Lib.hid (by
    obtain ⟨ik, hik, _, hk1, _⟩ := info_parts Try.infoWrite
    rw [hik]; simp [hk1])
  have HST : Hid ((Try.prog.info? 59).map (·.size) = some 512) := Lib.hid (by
    obtain ⟨ik, hik, _, hk1, _⟩ := info_parts Try.infoSector
    rw [hik]; simp [hk1])
  clear hd1 hs1 c0 c2 c3
  go_wp2_with fail
  clear c1
  go_loopw [5, 20] (fun _ i wr => ∃ j : Nat, j ≤ O.length ∧ i = .int .i64 j ∧ DiskAt wr D (.slice lo L.length lc) (.slice oo O.length oc) ⟨applied L (O.take j), O, lim, left, dn⟩ ∧ DStep w1 wr D (.slice lo L.length lc) (.slice oo O.length oc) (.slice lo L.length lc) (.slice oo O.length oc)) (fun _ i _ => O.length - (intOf i).toNat)
  case atStart => exact ⟨0, by omega, rfl, HD1.out, DStep.of_same (Keeps.refl _ _)⟩
  case round =>
    obtain ⟨j, hj, rfl, hd, hs⟩ := hrel
    have HD := Lib.hid hd
    have HS := Lib.hid hs
    clear hs
    by_cases hlt : j < O.length
    · have hlt2 : (j : Int) < (O.length : Int) := by omega
      obtain ⟨go, oc', hov, hra⟩ := hd.opn.at (fun x hx => by rw [wcells_length, (hd.wr x hx).1]) j hlt
      simp only [Value.slice.injEq] at hov
      obtain ⟨rfl, _, rfl⟩ := hov
      have hat := hd.wr _ (List.getElem_mem hlt)
      have hsn := applied_snoc L O j hlt
      simp only at hra hat
      generalize O[j] = x at *
      obtain ⟨m, bs⟩ := x
      simp only at hra hat hsn
      have HSN := Lib.hid hsn
      have hbl : (wcells (m, bs)).length = 513 := by rw [wcells_length, hat.1]
      have hbl2 : (u8s bs).length = 512 := by rw [u8s_length, hat.1]
      obtain ⟨w2, hw2⟩ : ∃ w2, (wr.alloc (.cells wzero.toArray 64)).setRow wr.heap.size (wcells (m, bs)).toArray = w2 := ⟨_, rfl⟩
      have k2 : Same wr w2 := by rw [← hw2]; exact ((Keeps.refl _ _).alloc _).setRow _ _ (.inl (Nat.le_refl _))
      have HB2 : Hid (w2.heap[wr.heap.size]? = some (.cells (wcells (m, bs)).toArray 64 (0, 0))) := Lib.hid (by rw [← hw2]; exact setRow_heap _ _ _ _ _ (0, 0) (heap_alloc_new wr _))
      have HN2 : Hid ((wr.alloc (.cells wzero.toArray 64)).heap[wr.heap.size]? = some (.cells wzero.toArray 64 (0, 0))) := Lib.hid (heap_alloc_new wr _)
      have HD2 := Lib.hid (HD.out.same k2)
      have HS2 := Lib.hid (HS.out.trans (DStep.of_same k2))
      have HRA : Hid (wr.rangeAt go (j * 513) (wcells (m, bs))) := Lib.hid hra
      have HRA2 : Hid ((wr.alloc (.cells wzero.toArray 64)).rangeAt go (j * 513) (wcells (m, bs))) := Lib.hid (World.rangeAt_alloc hra _)
      have HW2 := Lib.hid hw2
      have HALL : Hid ((wcells (m, bs)).toArray.all (·.oneCell') = true) := Lib.hid (all_oneCell_toArray (wcells_one _))
      have HBL : Hid ((wcells (m, bs)).length = 513) := Lib.hid hbl
      have HBA : Hid ((wcells (m, bs)).toArray.size = 513) := Lib.hid (by rw [List.size_toArray]; exact hbl)
      have HBS : Hid ((u8s bs).length = 512) := Lib.hid hbl2
      have HWTL : Hid ((Try.prog.info? 64).map (·.size) = some (wcells (m, bs)).length) := Lib.hid (by rw [HBL.out]; exact HWT.out)
      have HWTA : Hid ((Try.prog.info? 64).map (·.size) = some (wcells (m, bs)).toArray.size) := Lib.hid (by rw [HBA.out]; exact HWT.out)
      have HSTL : Hid ((Try.prog.info? 59).map (·.size) = some (u8s bs).length) := Lib.hid (by rw [HBS.out]; exact HST.out)
      have HCB : Hid (∀ w', Same w2 w' → w'.cell? ⟨wr.heap.size, 0, none⟩ = some (.int .i64 (m : Nat)) ∧ w'.rangeAt wr.heap.size 1 (u8s bs)) := Lib.hid (fun w' k => by
        have hb := k.obj HB2.out (fun e => e)
        refine ⟨?_, fun q u hu => ?_⟩
        · rw [cell_of_row _ _ _ _ _ _ hb]; simp [wcells]
        · rw [cell_of_row _ _ _ _ _ _ hb, Nat.add_comm 1 q]; simpa [wcells] using hu)
      have hsz2 : wr.heap.size < w2.heap.size := lt_of_block HB2.out
      clear hd hra k2 hw2 hbl hbl2 hsn
      go_wp2_with (first
        | (refine wpList_load_mid (by rfl) 64 _ (by rfl) go (j * 513) (by rfl) (wcells (m, bs)) _ HRA.out Try.underlying64 rfl HWTL.out ?_)
        | (refine wpList_store_row (by rfl) 64 _ _ (by rfl) wr.heap.size (wcells (m, bs)).toArray (by rfl) (by rfl) 64 wzero.toArray HN2.out HWTA.out (by rw [wzero_size, HBA.out]) HALL.out ?_; rw [HW2.out]))
      have hmL : m < L.length := by have := hat.2; rw [applied_len] at this; exact this
      obtain ⟨gl, rfl⟩ : ∃ gl, lo = some ⟨gl, 0, none⟩ := by
        cases lo with
        | none =>
          have := HD2.out.las.2
          rcases this with ⟨_, h0⟩ | ⟨g, _, _, e, _⟩
          · rw [applied_len] at h0; omega
          · simp at e
        | some a =>
          obtain ⟨g, e⟩ := hlf a rfl
          exact ⟨g, by rw [e]⟩
      have HC0 : Hid (∀ w', Same w2 w' → w'.cell? ⟨D, 0, none⟩ = some (.slice (some ⟨gl, 0, none⟩) L.length lc)) := Lib.hid (fun w' k => (HD2.out.same k).cells.1)
      refine wp_region_tail [[], [0], [1], [2], [], [4], [], [6], [3, 5, 0, 1, 2, 3, 4, 5, 6, 7], [8, 7, 0, 1, 2, 3, 4, 5, 6, 7]]
        [some 24, some 25, some 26, some 27, some 28, some 29, some 30, some 31, some 32, none]
        [.is (.pointer (some ⟨D, 0, none⟩)), .is (.pointer (some ⟨D, 0, none⟩)), .is (.pointer (some ⟨D, 0, none⟩)), .is (.slice (some ⟨gl, 0, none⟩) L.length lc), .is (.pointer (some ⟨wr.heap.size, 0, none⟩)), .is (.int .i64 (m : Nat)), .is (.pointer (some ⟨wr.heap.size, 1, none⟩)), .is (.agg (u8s bs).toArray)]
        (fun _ => False) [] (fun _ _ => True) 9 _ _ 37 8 10 (by kernel_rfl) (by rfl) (by rfl) (by omega) (by kernel_rfl) (by kernel_rfl) (by decide) (by decide) (fun _ e => e.elim) trivial (fun _ _ _ h _ => h) ?_ ?_
      · refine ⟨?_, ?_, ?_, ?_, ?_, ?_, ?_, ?_, trivial⟩
        · intro a w' K hk hdep hfr hK
          have f := hfr 0 (by decide)
          exact plan_do (by rfl) (plan_yield (i := 0) (V := fun _ _ v => v = (.pointer (some ⟨D, 0, none⟩) : Value)) (.pointer (some ⟨D, 0, none⟩)) (by go_simp) rfl hK)
        · intro a w' K hk hdep hfr hK
          have e24 : a.tmps[24]?.getD undef = .pointer (some ⟨D, 0, none⟩) := hdep 0 (by decide) 24 rfl
          exact plan_do (by rfl) (plan_yield (i := 1) (V := fun _ _ v => v = (.pointer (some ⟨D, 0, none⟩) : Value)) (.pointer (some ⟨D, 0, none⟩)) (by go_simp) rfl hK)
        · intro a w' K hk hdep hfr hK
          have e25 : a.tmps[25]?.getD undef = .pointer (some ⟨D, 0, none⟩) := hdep 1 (by decide) 25 rfl
          exact plan_do (by rfl) (plan_yield (i := 2) (V := fun _ _ v => v = (.pointer (some ⟨D, 0, none⟩) : Value)) (.pointer (some ⟨D, 0, none⟩)) (by go_simp) rfl hK)
        · intro a w' K hk hdep hfr hK
          have e26 : a.tmps[26]?.getD undef = .pointer (some ⟨D, 0, none⟩) := hdep 2 (by decide) 26 rfl
          have c0 := HC0.out w' hk
          exact plan_do (by rfl) (plan_yield (i := 3) (V := fun _ _ v => v = (.slice (some ⟨gl, 0, none⟩) L.length lc : Value)) (.slice (some ⟨gl, 0, none⟩) L.length lc) (by go_simp) rfl hK)
        · intro a w' K hk hdep hfr hK
          have f := hfr 5 (by decide)
          exact plan_do (by rfl) (plan_yield (i := 4) (V := fun _ _ v => v = (.pointer (some ⟨wr.heap.size, 0, none⟩) : Value)) (.pointer (some ⟨wr.heap.size, 0, none⟩)) (by go_simp) rfl hK)
        · intro a w' K hk hdep hfr hK
          have e28 : a.tmps[28]?.getD undef = .pointer (some ⟨wr.heap.size, 0, none⟩) := hdep 4 (by decide) 28 rfl
          have cb := (HCB.out w' hk).1
          exact plan_do (by rfl) (plan_yield (i := 5) (V := fun _ _ v => v = (.int .i64 (m : Nat) : Value)) (.int .i64 (m : Nat)) (by go_simp) rfl hK)
        · intro a w' K hk hdep hfr hK
          have f := hfr 5 (by decide)
          exact plan_do (by rfl) (plan_yield (i := 6) (V := fun _ _ v => v = (.pointer (some ⟨wr.heap.size, 1, none⟩) : Value)) (.pointer (some ⟨wr.heap.size, 1, none⟩)) (by go_simp) rfl hK)
        · intro a w' K hk hdep hfr hK
          have e30 : a.tmps[30]?.getD undef = .pointer (some ⟨wr.heap.size, 1, none⟩) := hdep 6 (by decide) 30 rfl
          exact plan_do (by rfl) (wp_load_mid 59 (.tmp 30) rfl wr.heap.size 1 ((eval_tmp _ _).trans e30) (u8s bs) _ (HCB.out w' hk).2 Try.underlying59 rfl HSTL.out (hK _ _ (Keeps.refl _ _) rfl))
      intro a w3 hk hdef hsz hv hfr _
      have e27 : a.tmps[27]?.getD undef = .slice (some ⟨gl, 0, none⟩) L.length lc := hv 3 27 (by omega) rfl
      have e29 : a.tmps[29]?.getD undef = .int .i64 (m : Nat) := hv 5 29 (by omega) rfl
      have e31 : a.tmps[31]?.getD undef = .agg (u8s bs).toArray := hv 7 31 (by omega) rfl
      have he := act_eq a _ [some 24, some 25, some 26, some 27, some 28, some 29, some 30, some 31, some 32, none] 37 rfl hsz hdef hfr (fun d => a.tmps[d]?.getD undef) (fun _ _ => rfl)
      obtain ⟨v24, h24⟩ : ∃ v, a.tmps[24]?.getD undef = v := ⟨_, rfl⟩
      obtain ⟨v25, h25⟩ : ∃ v, a.tmps[25]?.getD undef = v := ⟨_, rfl⟩
      obtain ⟨v26, h26⟩ : ∃ v, a.tmps[26]?.getD undef = v := ⟨_, rfl⟩
      obtain ⟨v28, h28⟩ : ∃ v, a.tmps[28]?.getD undef = v := ⟨_, rfl⟩
      obtain ⟨v30, h30⟩ : ∃ v, a.tmps[30]?.getD undef = v := ⟨_, rfl⟩
      obtain ⟨v32, h32⟩ : ∃ v, a.tmps[32]?.getD undef = v := ⟨_, rfl⟩
      simp only [putAll, h24, h25, h26, e27, h28, e29, h30, e31, h32] at he
      clear h24 h25 h26 e27 h28 e29 h30 e31 h32 hdef hsz hv hfr
      subst he
      have HD3 := Lib.hid (HD2.out.same hk)
      have HS3 := Lib.hid (HS2.out.trans (DStep.of_same hk))
      obtain ⟨cur, hcur, hfit, hd4, hs4⟩ := HD3.out.put' (applied_len _ _) m hmL bs hat.1
      obtain ⟨w4, hw4⟩ : ∃ w4, w3.setRow gl (cur.toList.take (m * 512) ++ (u8s bs).toArray.toList ++ cur.toList.drop (m * 512 + (u8s bs).toArray.toList.length)).toArray = w4 := ⟨_, rfl⟩
      have HCUR := Lib.hid hcur
      have HD4 : Hid (DiskAt w4 D (.slice (some ⟨gl, 0, none⟩) L.length lc) (.slice (some ⟨go, 0, none⟩) O.length oc) ⟨applied L (O.take (j + 1)), O, lim, left, dn⟩) := Lib.hid (by rw [← hw4, HSN.out]; exact hd4)
      have HS4 : Hid (DStep w1 w4 D (.slice (some ⟨gl, 0, none⟩) L.length lc) (.slice (some ⟨go, 0, none⟩) O.length oc) (.slice (some ⟨gl, 0, none⟩) L.length lc) (.slice (some ⟨go, 0, none⟩) O.length oc)) := Lib.hid (by rw [← hw4]; exact HS3.out.trans hs4)
      have HW4 := Lib.hid hw4
      have HFIT : Hid (m * 512 + (u8s bs).toArray.size ≤ cur.size) := Lib.hid (by rw [List.size_toArray, HBS.out]; exact hfit)
      have HSTA : Hid ((Try.prog.info? 59).map (·.size) = some (u8s bs).toArray.size) := Lib.hid (by rw [List.size_toArray]; exact HSTL.out)
      have HALS : Hid ((u8s bs).toArray.all (·.oneCell') = true) := Lib.hid (all_oneCell_toArray (u8s_cell _))
      clear hcur hfit hd4 hs4 hw4 hk HC0 HCB HD2 HS2 HD3 HS3 HRA HRA2 HW2 HN2 HB2 HD HS hat
      have q1 : (m : Int) < (L.length : Int) := by omega
      go_wp2_with (first
        | (refine wpList_store_at (by rfl) 59 _ _ (by rfl) gl (m * 512) 59 (u8s bs).toArray cur (by rfl) (by rfl) HCUR.out HFIT.out HSTA.out HALS.out ?_; rw [HW4.out]))
      go_roundw
      case rel => exact ⟨j + 1, by omega, by go_num, HD4.out, HS4.out⟩
      case measure => simp [intOf]; omega
    · have hlt2 : ¬ (j : Int) < (O.length : Int) := by omega
      obtain rfl : j = O.length := by omega
      have hLL : applied L (O.take O.length) = applied L O := by rw [List.take_length]
      rw [hLL] at HD
      have c1 := HD.out.obj.cell (i := 1) rfl
      have g1 := HD.out.obj.free 1
      obtain ⟨w5, hw5⟩ : ∃ w5, wr.setCell ⟨D, 1, none⟩ (.slice none 0 0) = w5 := ⟨_, rfl⟩
      have kset : Keeps (fun k => k = D) wr w5 := by rw [← hw5]; exact (Keeps.refl _ _).setCell _ _ (.inr rfl)
      have HD5 : Hid (DiskAt w5 D (.slice lo L.length lc) (.slice none 0 0) ⟨applied L O, [], lim, left, dn⟩) := Lib.hid
        ⟨by rw [← hw5]; exact HD.out.obj.set 1 _, HD.out.las.keep kset (fun k e e2 => HD.out.nl (by rw [e, e2])), World.ownsRow_nil _ _ _ _, HD.out.nl, by simp [Value.ownBlock], fun k _ => by simp [Value.ownBlock], HD.out.sec, fun o ho => by simp at ho, HD.out.few, HD.out.lft⟩
      have HS5 : Hid (DStep w w5 D (.slice lo L.length lc) (.slice oo O.length oc) (.slice lo L.length lc) (.slice none 0 0)) := Lib.hid
        ((HS1.out.trans HS.out).trans ⟨kset.mono (fun _ _ e => .inl e), fun k e => by
          rcases e with e | e | e
          · exact .inl (.inl e)
          · exact .inl (.inr (.inl e))
          · cases e⟩)
      have HW5 := Lib.hid hw5
      clear hd kset hw5 HD HS
      go_wp2
      rw [HW5.out]
      go_ret
      exact ⟨rfl, HD5.out, HS5.out⟩
end Go.Proofs.Ytoimhniijeafaaa
