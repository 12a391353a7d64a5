/- A copy of sectors; what (*disk.Disk).Crash does. -/
import Derived.Test.YtoimhniijeafaaaDk5
namespace Go.Proofs.Ytoimhniijeafaaa
open Go.RowKit
set_option linter.unusedVariables false

set_option maxRecDepth 100000 in
set_option maxHeartbeats 800000 in
theorem cloneS_ok (w : World) (g n c : Nat) (L : List (List UInt8)) (hn : L.length = n) (h0 : 0 < n) (hm : n ≤ 4096) (h : OwnRow w 59 512 u8s (.slice (some ⟨g, 0, none⟩) n c) L) (hs : ∀ x ∈ L, x.length = 512) :
    Calls Try.prog 28 #[.slice (some ⟨g, 0, none⟩) n c] w fun e w' => ∃ g' c', e = .returned (.slice (some ⟨g', 0, none⟩) n c') ∧ OwnRow w' 59 512 u8s (.slice (some ⟨g', 0, none⟩) n c') L ∧ Same w w' ∧ w.heap.size ≤ g' := by
  obtain ⟨ie, hie, hz0, hz1, hz2⟩ := info_parts Try.infoSector
  have q22 : ∀ (w : World) (a : Option Addr) (n c n' c' : Nat), (binOp .eql 54 (.slice a n c) (.slice none n' c')).run Try.prog w = .ok (.bool a.isNone) w := fun w a n c n' c' => Lib.run_eql_slice_nil w _ _ a n c n' c' Try.underlying54
  have hfl : (L.flatMap u8s).length = n * 512 := by rw [flat_len (n := 512) (fun x hx => by rw [u8s_length]; exact hs x hx), hn]
  have hal : Same w (w.alloc (.cells #[] 59)) := (Keeps.refl _ _).alloc _
  obtain ⟨v', w', hrun, ho, hg⟩ := run_append_arg_grows (P := Try.prog) (w.alloc (.cells #[] 59)) 54 54 59 ie (.agg (u8s noughts).toArray) 512 512 Try.underlying54 hie hz0 hz1 hz2 (by simp [Value.cells, u8s_length, noughts_length]) (by omega) ⟨w.heap.size, 0, none⟩ 0 0 [] (by simp) (by simp) ⟨g, 0, none⟩ n c (L.flatMap u8s) hfl
    (fun j u hu => World.ownsRow.cells (own_keeps hal h (fun _ _ e => e)) (g := g) rfl j u hu) (by omega) (by unfold maxLen; omega) (by omega)
  simp only [List.nil_append, Nat.zero_add] at ho
  obtain ⟨g', c', rfl⟩ : ∃ g c, v' = .slice (some ⟨g, 0, none⟩) n c := by
    rcases ho.2 with ⟨_, e⟩ | ⟨g, cp, cur, e, _⟩
    · omega
    · exact ⟨g, cp, e⟩
  have HO : Hid (OwnRow w' 59 512 u8s (.slice (some ⟨g', 0, none⟩) n c') L) := Lib.hid (by unfold OwnRow; rw [hn]; exact own_base ho (Nat.zero_le _))
  have HG : Hid (w.heap.size ≤ g') := Lib.hid (by have := (ho.lt g' rfl).1; simp at this; omega)
  have HK : Hid (Same w w') := Lib.hid (hal.grown hg (fun k e => by cases e))
  have HRUN := Lib.hid hrun
  clear hie hz0 hz1 hz2 h ho hg hal hrun hfl
  go_enter Try.func28, Try.ntmps28
  go_wp2_with (at_builtin; refine wpList_append_run (by rfl) _ _ 54 (by rfl) (.slice (some ⟨w.heap.size, 0, none⟩) 0 0) (.slice (some ⟨g, 0, none⟩) n c) _ w' (by rfl) (by rfl) HRUN.out ?_)
  go_wp2
  go_ret
  exact ⟨g', c', rfl, HO.out, HK.out, HG.out⟩

/-- What a crash makes of what lasts. -/
def fated (L : List (List UInt8)) (p : (Nat × List UInt8) × Int) : List (List UInt8) := L.set p.1.1 (suffered (L.getD p.1.1 []) p.1.2 p.2)
def crashedTo (L : List (List UInt8)) (O : List (Nat × List UInt8)) (fates : List Int) (j : Nat) : List (List UInt8) := ((O.zip fates).take j).foldl fated L
def DSt.crashed (s : DSt) (fates : List Int) : DSt := ⟨(s.O.zip fates).foldl fated s.L, [], false, 0, false⟩
theorem fated_len (L : List (List UInt8)) (p : (Nat × List UInt8) × Int) : (fated L p).length = L.length := List.length_set
theorem folded_len (ps : List ((Nat × List UInt8) × Int)) : ∀ L, (ps.foldl fated L).length = L.length := by
  induction ps with
  | nil => intro L; rfl
  | cons p r ih => intro L; show (r.foldl fated (fated L p)).length = _; rw [ih, fated_len]
theorem crashedTo_len (L : List (List UInt8)) (O : List (Nat × List UInt8)) (fates : List Int) (j : Nat) : (crashedTo L O fates j).length = L.length := folded_len _ _
theorem crashedTo_snoc (L : List (List UInt8)) (O : List (Nat × List UInt8)) (fates : List Int) (j : Nat) (h1 : j < O.length) (h2 : j < fates.length) : crashedTo L O fates (j + 1) = fated (crashedTo L O fates j) (O[j], fates[j]) := by
  unfold crashedTo
  have hz : j < (O.zip fates).length := by rw [List.length_zip]; omega
  rw [List.take_succ_eq_append_getElem hz, List.foldl_append]
  simp
theorem crashedTo_more (L : List (List UInt8)) (O : List (Nat × List UInt8)) (fates : List Int) (j : Nat) (h2 : fates.length ≤ j) : crashedTo L O fates (j + 1) = crashedTo L O fates j := by
  unfold crashedTo
  rw [List.take_of_length_le (by rw [List.length_zip]; omega), List.take_of_length_le (by rw [List.length_zip]; omega)]
theorem DiskAt.put2 {w w' : World} {D g c N : Nat} {ov : Value} {s : DSt} (hN : s.L.length = N) (h : DiskAt w D (.slice (some ⟨g, 0, none⟩) N c) ov s) (i : Nat) (hi : i < N) (y : List UInt8) (hy : y.length = 512) (k : Keeps (fun k => k = g) w w')
    (hw : ∀ cur, w.heap[g]? = some (.cells cur 59 (0, 0)) → w'.heap[g]? = some (.cells (cur.toList.take (i * 512) ++ u8s y ++ cur.toList.drop (i * 512 + 512)).toArray 59 (0, 0))) :
    DiskAt w' D (.slice (some ⟨g, 0, none⟩) N c) ov { s with L := s.L.set i y } := by
  obtain ⟨cur, hc, _, hd, _⟩ := h.put' hN i hi y hy
  have h2 := hw cur hc
  rw [u8s_length, hy] at hd
  refine hd.same ⟨k.os, k.tape, k.output, by have := k.size; simpa using this, fun q hq _ => ?_⟩
  by_cases e : q = g
  · subst e
    rw [h2, setRow_heap w q cur _ _ (0, 0) hc]
  · rw [setRow_other w g q _ e]
    exact k.block q (by simpa using hq) e

set_option maxRecDepth 100000 in
set_option maxHeartbeats 6400000 in
theorem crash_ok (w : World) (D : Nat) (lv ov : Value) (s : DSt) (fo : Option Addr) (fc : Nat) (fates : List Int) (h : DiskAt w D lv ov s) (hp : 0 < s.L.length) (hO : s.O.length ≤ 100000) (hf : Ints w (.slice fo fates.length fc) fates) :
    Calls Try.prog 18 #[.pointer (some ⟨D, 0, none⟩), .slice fo fates.length fc] w fun e w' => ∃ D2 lv2, e = .returned (.pointer (some ⟨D2, 0, none⟩)) ∧ DiskAt w' D2 lv2 (.slice none 0 0) (s.crashed fates) ∧ Same w w' ∧ ∀ k, Foot D2 lv2 (.slice none 0 0) k → w.heap.size ≤ k := by
  obtain ⟨c0, c1, c2, c3, c4⟩ := h.cells
  have H := Lib.hid h
  obtain ⟨L, O, lim, left, dn⟩ := s
  have hml := h.few
  obtain ⟨g, c, hlv⟩ : ∃ g c, lv = .slice (some ⟨g, 0, none⟩) L.length c := by
    rcases h.las.2 with ⟨_, h0⟩ | ⟨g, cp, cur, e, _⟩
    · simp only at h0 hp; omega
    · exact ⟨g, cp, e⟩
  subst hlv
  obtain ⟨oo, oc, rfl, hoc, hof⟩ := h.opn.form
  simp only at c1 hoc hp hO hml
  have HF := Lib.hid hf
  have hzs := Try.zeroWrite
  have HWT : Hid ((Try.prog.info? 64).map (·.size) = some 513) := Lib.hid (by
    obtain ⟨ik, hik, _, hk1, _⟩ := info_parts Try.infoWrite
    rw [hik]; simp [hk1])
  clear h c2 c3 c4 hf
  go_enter Try.func18, Try.ntmps18
  go_wp2_with fail
  refine (cloneS_ok _ g L.length c L rfl hp hml H.out.las H.out.sec).mono ?_
  rintro e w1 ⟨g2, cc2, rfl, ho2, hk1, hg2⟩
  have hw1 := hk1.size
  have c1' : w1.cell? ⟨D, 1, none⟩ = some (.slice oo O.length oc) := (H.out.same hk1).cells.2.1
  obtain ⟨w2, hw2⟩ : ∃ w2, w1.alloc (.cells (disk0 (.slice (some ⟨g2, 0, none⟩) L.length cc2)).toArray 57) = w2 := ⟨_, rfl⟩
  have k12 : Same w1 w2 := by rw [← hw2]; exact (Keeps.refl _ _).alloc _
  have HD2 : Hid (DiskAt w2 w1.heap.size (.slice (some ⟨g2, 0, none⟩) L.length cc2) (.slice none 0 0) ⟨L, [], false, 0, false⟩) := Lib.hid
    ⟨by rw [← hw2]; exact heap_alloc_new w1 _, ho2.keep k12 (fun _ _ e => e), World.ownsRow_nil _ _ _ _, by have := ho2.lt g2 rfl; simp [Value.ownBlock]; omega, by simp [Value.ownBlock], fun k _ => by simp [Value.ownBlock], H.out.sec, fun o ho => by simp at ho, hml, fun e => by cases e⟩
  have HK2 : Hid (Same w w2) := Lib.hid (hk1.trans k12 (fun _ _ e => e))
  have HFT : Hid (∀ k, Foot w1.heap.size (.slice (some ⟨g2, 0, none⟩) L.length cc2) (.slice none 0 0) k → w.heap.size ≤ k) := Lib.hid (fun k e => by
    rcases e with rfl | e | e
    · exact hw1
    · cases e; exact hg2
    · cases e)
  have c1'' : (w1.alloc (.cells #[.slice (some ⟨g2, 0, none⟩) L.length cc2, .slice none 0 0, .bool false, .int .i64 0, .bool false] 57)).cell? ⟨D, 1, none⟩ = some (.slice oo O.length oc) := (H.out.same (hk1.alloc _)).cells.2.1
  have HW2 := Lib.hid hw2
  have HCN : Hid (∀ wr, Same w wr → DiskAt wr D (.slice (some ⟨g, 0, none⟩) L.length c) (.slice oo O.length oc) ⟨L, O, lim, left, dn⟩ ∧ Ints wr (.slice fo fates.length fc) fates) := Lib.hid (fun wr k => ⟨H.out.same k, HF.out.same k⟩)
  clear ho2 hk1 hg2 k12 hw2 c0 c1
  go_wp2_with fail
  have hsz2 : w1.heap.size < w2.heap.size := HD2.out.obj.lt
  generalize hDD : w1.heap.size = D2 at *
  rw [show (w1.alloc (.cells #[.slice (some ⟨g2, 0, none⟩) L.length cc2, .slice none 0 0, .bool false, .int .i64 0, .bool false] 57)) = w2 from HW2.out]
  clear c1' c1''
  go_loopw [6, 7, 20] (fun _ _ i wr => ∃ j : Nat, j ≤ O.length ∧ i = .int .i64 j ∧ DiskAt wr D2 (.slice (some ⟨g2, 0, none⟩) L.length cc2) (.slice none 0 0) ⟨crashedTo L O fates j, [], false, 0, false⟩ ∧ Same w wr) (fun _ _ i _ => O.length - (intOf i).toNat)
  case atStart => exact ⟨0, by omega, rfl, HD2.out, HK2.out⟩
  case round =>
    obtain ⟨j, hj, rfl, hd, hs⟩ := hrel
    have HD := Lib.hid hd
    have HS := Lib.hid hs
    have hsD := hd.obj.lt
    clear hd
    by_cases hlt : j < O.length
    · have hlt2 : (j : Int) < (O.length : Int) := by omega
      obtain ⟨go, oc', hov, hra⟩ := (HCN.out wr hs).1.opn.at (fun x hx => by rw [wcells_length, ((HCN.out wr hs).1.wr x hx).1]) j hlt
      simp only [Value.slice.injEq] at hov
      obtain ⟨rfl, _, rfl⟩ := hov
      have hat := (HCN.out wr hs).1.wr _ (List.getElem_mem hlt)
      have hsn := fun h2 => crashedTo_snoc L O fates j hlt h2
      simp only at hra hat
      generalize O[j] = x at *
      obtain ⟨m, bs⟩ := x
      simp only at hra hat hsn
      have HSN := Lib.hid hsn
      have hbl : (wcells (m, bs)).length = 513 := by rw [wcells_length, hat.1]
      obtain ⟨w3, hw3⟩ : ∃ w3, (wr.alloc (.cells wzero.toArray 64)).setRow wr.heap.size (wcells (m, bs)).toArray = w3 := ⟨_, rfl⟩
      have k3 : Same wr w3 := by rw [← hw3]; exact ((Keeps.refl _ _).alloc _).setRow _ _ (.inl (Nat.le_refl _))
      have HB3 : Hid (w3.heap[wr.heap.size]? = some (.cells (wcells (m, bs)).toArray 64 (0, 0))) := Lib.hid (by rw [← hw3]; exact setRow_heap _ _ _ _ _ (0, 0) (heap_alloc_new wr _))
      have HN3 : Hid ((wr.alloc (.cells wzero.toArray 64)).heap[wr.heap.size]? = some (.cells wzero.toArray 64 (0, 0))) := Lib.hid (heap_alloc_new wr _)
      have HD3 := Lib.hid (HD.out.same k3)
      have HS3 : Hid (Same w w3) := Lib.hid (hs.trans k3 (fun _ _ e => e))
      have HRA : Hid (wr.rangeAt go (j * 513) (wcells (m, bs))) := Lib.hid hra
      have HW3 := Lib.hid hw3
      have HALL : Hid ((wcells (m, bs)).toArray.all (·.oneCell') = true) := Lib.hid (all_oneCell_toArray (wcells_one _))
      have HBA : Hid ((wcells (m, bs)).toArray.size = 513) := Lib.hid (by rw [List.size_toArray]; exact hbl)
      have HWTL : Hid ((Try.prog.info? 64).map (·.size) = some (wcells (m, bs)).length) := Lib.hid (by rw [hbl]; exact HWT.out)
      have HWTA : Hid ((Try.prog.info? 64).map (·.size) = some (wcells (m, bs)).toArray.size) := Lib.hid (by rw [HBA.out]; exact HWT.out)
      have HCB : Hid (∀ w', Same w3 w' → w'.cell? ⟨wr.heap.size, 0, none⟩ = some (.int .i64 (m : Nat)) ∧ w'.rangeAt wr.heap.size 1 (u8s bs)) := Lib.hid (fun w' k => by
        have hb := k.obj HB3.out (fun e => e)
        refine ⟨?_, fun q u hu => ?_⟩
        · rw [cell_of_row _ _ _ _ _ _ hb]; simp [wcells]
        · rw [cell_of_row _ _ _ _ _ _ hb, Nat.add_comm 1 q]; simpa [wcells] using hu)
      have hsz3 : wr.heap.size < w3.heap.size := lt_of_block HB3.out
      clear hra k3 hw3 hbl hsn hs HD
      by_cases hfl : j < fates.length
      case neg =>
        have hfl2 : ¬ (j : Int) < (fates.length : Int) := by omega
        have HD4 : Hid (DiskAt w3 D2 (.slice (some ⟨g2, 0, none⟩) L.length cc2) (.slice none 0 0) ⟨crashedTo L O fates (j + 1), [], false, 0, false⟩) := Lib.hid (by rw [crashedTo_more L O fates j (by omega)]; exact HD3.out)
        go_wp2_with (first
          | (refine wpList_load_mid (by rfl) 64 _ (by rfl) go (j * 513) (by rfl) (wcells (m, bs)) _ HRA.out Try.underlying64 rfl HWTL.out ?_)
          | (refine wpList_store_row (by rfl) 64 _ _ (by rfl) wr.heap.size (wcells (m, bs)).toArray (by rfl) (by rfl) 64 wzero.toArray HN3.out HWTA.out (by rw [wzero_size, HBA.out]) HALL.out ?_; rw [HW3.out]))
        go_roundw
        case rel => exact ⟨j + 1, by omega, by go_num, HD4.out, HS3.out⟩
        case measure => simp [intOf]; omega
      have hfl2 : (j : Int) < (fates.length : Int) := by omega
      go_wp2_with (first
        | (refine wpList_load_mid (by rfl) 64 _ (by rfl) go (j * 513) (by rfl) (wcells (m, bs)) _ HRA.out Try.underlying64 rfl HWTL.out ?_)
        | (refine wpList_store_row (by rfl) 64 _ _ (by rfl) wr.heap.size (wcells (m, bs)).toArray (by rfl) (by rfl) 64 wzero.toArray HN3.out HWTA.out (by rw [wzero_size, HBA.out]) HALL.out ?_; rw [HW3.out]))
      have hmL : m < L.length := hat.2
      obtain ⟨fa, rfl, _⟩ := (HCN.out w3 HS3.out).2.at hfl
      have HFC : Hid (∀ w', Same w3 w' → w'.cell? (fa.add j) = some (.int .i64 fates[j])) := Lib.hid (fun w' k => by
        obtain ⟨a, ha, hc⟩ := (HCN.out w' (HS3.out.trans k (fun _ _ e => e))).2.at hfl
        simp only [Option.some.injEq] at ha
        subst ha
        exact hc)
      have HSN1 := Lib.hid (HSN.out hfl)
      generalize fates[j] = fate at *
      have HC0 : Hid (∀ w', Same w3 w' → w'.cell? ⟨D2, 0, none⟩ = some (.slice (some ⟨g2, 0, none⟩) L.length cc2)) := Lib.hid (fun w' k => (HD3.out.same k).cells.1)
      have q1 : (m : Int) < (L.length : Int) := by omega
      refine wp_region_tail [[], [0], [1], [2], [], [4], [3, 5], [], [7], [], [], [9, 10], [11], [6, 8, 12]]
        [some 29, some 30, some 31, some 32, some 33, some 34, some 35, some 36, some 37, some 38, some 39, some 40, some 41, some 42]
        [.is (.pointer (some ⟨D2, 0, none⟩)), .is (.pointer (some ⟨D2, 0, none⟩)), .is (.pointer (some ⟨D2, 0, none⟩)), .is (.slice (some ⟨g2, 0, none⟩) L.length cc2), .is (.pointer (some ⟨wr.heap.size, 0, none⟩)), .is (.int .i64 (m : Nat)), .is (.pointer (some ⟨g2, m * 512, none⟩)),
          .is (.pointer (some ⟨wr.heap.size, 1, none⟩)), .is (.slice (some ⟨wr.heap.size, 1, none⟩) 512 512), .is (.slice (some fa) fates.length fc), .is (.int .i64 (j : Nat)), .is (.pointer (some (fa.add j))), .is (.int .i64 fate)]
        (fun _ => False) [] (fun _ _ => True) 6 _ _ 45 13 14 (by kernel_rfl) (by rfl) (by rfl) (by omega) (by kernel_rfl) (by kernel_rfl) (by decide) (by decide) (fun _ e => e.elim) trivial (fun _ _ _ h _ => h) ?_ ?_
      · refine ⟨?_, ?_, ?_, ?_, ?_, ?_, ?_, ?_, ?_, ?_, ?_, ?_, ?_, trivial⟩
        · intro a w' K hk hdep hfr hK
          have f := hfr 5 (by decide)
          exact plan_do (by rfl) (plan_yield (i := 0) (V := fun _ _ v => v = ((.pointer (some ⟨D2, 0, none⟩)) : Value)) ((.pointer (some ⟨D2, 0, none⟩))) (by go_simp) rfl hK)
        · intro a w' K hk hdep hfr hK
          have e29 : a.tmps[29]?.getD undef = .pointer (some ⟨D2, 0, none⟩) := hdep 0 (by decide) 29 rfl
          exact plan_do (by rfl) (plan_yield (i := 1) (V := fun _ _ v => v = ((.pointer (some ⟨D2, 0, none⟩)) : Value)) ((.pointer (some ⟨D2, 0, none⟩))) (by go_simp) rfl hK)
        · intro a w' K hk hdep hfr hK
          have e30 : a.tmps[30]?.getD undef = .pointer (some ⟨D2, 0, none⟩) := hdep 1 (by decide) 30 rfl
          exact plan_do (by rfl) (plan_yield (i := 2) (V := fun _ _ v => v = ((.pointer (some ⟨D2, 0, none⟩)) : Value)) ((.pointer (some ⟨D2, 0, none⟩))) (by go_simp) rfl hK)
        · intro a w' K hk hdep hfr hK
          have e31 : a.tmps[31]?.getD undef = .pointer (some ⟨D2, 0, none⟩) := hdep 2 (by decide) 31 rfl
          have c0 := HC0.out w' hk
          exact plan_do (by rfl) (plan_yield (i := 3) (V := fun _ _ v => v = (.slice (some ⟨g2, 0, none⟩) L.length cc2 : Value)) (.slice (some ⟨g2, 0, none⟩) L.length cc2) (by go_simp) rfl hK)
        · intro a w' K hk hdep hfr hK
          have f := hfr 7 (by decide)
          exact plan_do (by rfl) (plan_yield (i := 4) (V := fun _ _ v => v = (.pointer (some ⟨wr.heap.size, 0, none⟩) : Value)) (.pointer (some ⟨wr.heap.size, 0, none⟩)) (by go_simp) rfl hK)
        · intro a w' K hk hdep hfr hK
          have e33 : a.tmps[33]?.getD undef = .pointer (some ⟨wr.heap.size, 0, none⟩) := hdep 4 (by decide) 33 rfl
          have cb := (HCB.out w' hk).1
          exact plan_do (by rfl) (plan_yield (i := 5) (V := fun _ _ v => v = (.int .i64 (m : Nat) : Value)) (.int .i64 (m : Nat)) (by go_simp) rfl hK)
        · intro a w' K hk hdep hfr hK
          have e32 : a.tmps[32]?.getD undef = .slice (some ⟨g2, 0, none⟩) L.length cc2 := hdep 3 (by decide) 32 rfl
          have e34 : a.tmps[34]?.getD undef = .int .i64 (m : Nat) := hdep 5 (by decide) 34 rfl
          exact plan_do (by rfl) (plan_yield (i := 6) (V := fun _ _ v => v = (.pointer (some ⟨g2, m * 512, none⟩) : Value)) (.pointer (some ⟨g2, m * 512, none⟩)) (by go_simp) rfl hK)
        · intro a w' K hk hdep hfr hK
          have f := hfr 7 (by decide)
          exact plan_do (by rfl) (plan_yield (i := 7) (V := fun _ _ v => v = (.pointer (some ⟨wr.heap.size, 1, none⟩) : Value)) (.pointer (some ⟨wr.heap.size, 1, none⟩)) (by go_simp) rfl hK)
        · intro a w' K hk hdep hfr hK
          have e36 : a.tmps[36]?.getD undef = .pointer (some ⟨wr.heap.size, 1, none⟩) := hdep 7 (by decide) 36 rfl
          exact plan_do (by rfl) (plan_yield (i := 8) (V := fun _ _ v => v = (.slice (some ⟨wr.heap.size, 1, none⟩) 512 512 : Value)) (.slice (some ⟨wr.heap.size, 1, none⟩) 512 512) (by go_simp) rfl hK)
        · intro a w' K hk hdep hfr hK
          have f := hfr 1 (by decide)
          exact plan_do (by rfl) (plan_yield (i := 9) (V := fun _ _ v => v = (.slice (some fa) fates.length fc : Value)) (.slice (some fa) fates.length fc) (by go_simp) rfl hK)
        · intro a w' K hk hdep hfr hK
          have f := hfr 6 (by decide)
          exact plan_do (by rfl) (plan_yield (i := 10) (V := fun _ _ v => v = (.int .i64 (j : Nat) : Value)) (.int .i64 (j : Nat)) (by go_simp) rfl hK)
        · intro a w' K hk hdep hfr hK
          have e38 : a.tmps[38]?.getD undef = .slice (some fa) fates.length fc := hdep 9 (by decide) 38 rfl
          have e39 : a.tmps[39]?.getD undef = .int .i64 (j : Nat) := hdep 10 (by decide) 39 rfl
          exact plan_do (by rfl) (plan_yield (i := 11) (V := fun _ _ v => v = (.pointer (some (fa.add j)) : Value)) (.pointer (some (fa.add j))) (by go_simp) rfl hK)
        · intro a w' K hk hdep hfr hK
          have e40 : a.tmps[40]?.getD undef = .pointer (some (fa.add j)) := hdep 11 (by decide) 40 rfl
          have cf := HFC.out w' hk
          exact plan_do (by rfl) (plan_yield (i := 12) (V := fun _ _ v => v = (.int .i64 fate : Value)) (.int .i64 fate) (by go_simp) rfl hK)
      intro a w4 hk hdef hsz hv hfr _
      have e35 : a.tmps[35]?.getD undef = .pointer (some ⟨g2, m * 512, none⟩) := hv 6 35 (by omega) rfl
      have e37 : a.tmps[37]?.getD undef = .slice (some ⟨wr.heap.size, 1, none⟩) 512 512 := hv 8 37 (by omega) rfl
      have e41 : a.tmps[41]?.getD undef = .int .i64 fate := hv 12 41 (by omega) rfl
      have he := act_eq a _ [some 29, some 30, some 31, some 32, some 33, some 34, some 35, some 36, some 37, some 38, some 39, some 40, some 41, some 42] 45 rfl hsz hdef hfr (fun d => a.tmps[d]?.getD undef) (fun _ _ => rfl)
      obtain ⟨v29, h29⟩ : ∃ v, a.tmps[29]?.getD undef = v := ⟨_, rfl⟩
      obtain ⟨v30, h30⟩ : ∃ v, a.tmps[30]?.getD undef = v := ⟨_, rfl⟩
      obtain ⟨v31, h31⟩ : ∃ v, a.tmps[31]?.getD undef = v := ⟨_, rfl⟩
      obtain ⟨v32, h32⟩ : ∃ v, a.tmps[32]?.getD undef = v := ⟨_, rfl⟩
      obtain ⟨v33, h33⟩ : ∃ v, a.tmps[33]?.getD undef = v := ⟨_, rfl⟩
      obtain ⟨v34, h34⟩ : ∃ v, a.tmps[34]?.getD undef = v := ⟨_, rfl⟩
      obtain ⟨v36, h36⟩ : ∃ v, a.tmps[36]?.getD undef = v := ⟨_, rfl⟩
      obtain ⟨v38, h38⟩ : ∃ v, a.tmps[38]?.getD undef = v := ⟨_, rfl⟩
      obtain ⟨v39, h39⟩ : ∃ v, a.tmps[39]?.getD undef = v := ⟨_, rfl⟩
      obtain ⟨v40, h40⟩ : ∃ v, a.tmps[40]?.getD undef = v := ⟨_, rfl⟩
      obtain ⟨v42, h42⟩ : ∃ v, a.tmps[42]?.getD undef = v := ⟨_, rfl⟩
      simp only [putAll, h29, h30, h31, h32, h33, h34, e35, h36, e37, h38, h39, h40, e41, h42] at he
      clear h29 h30 h31 h32 h33 h34 e35 h36 e37 h38 h39 h40 e41 h42 hdef hsz hv hfr
      subst he
      have HD4 := Lib.hid (HD3.out.same hk)
      have HS4 : Hid (Same w w4) := Lib.hid (HS3.out.trans hk (fun _ _ e => e))
      have hnew := (HCB.out w4 hk).2
      obtain ⟨cur, hcur, hfit, _, _⟩ := HD4.out.put' (crashedTo_len _ _ _ _) m hmL bs hat.1
      obtain ⟨old, hold⟩ : ∃ old, (crashedTo L O fates j).getD m [] = old := ⟨_, rfl⟩
      have hml2 : m < (crashedTo L O fates j).length := by rw [crashedTo_len]; exact hmL
      have hoe : (crashedTo L O fates j)[m] = old := by rw [← hold, List.getD_eq_getElem?_getD, List.getElem?_eq_getElem hml2]; rfl
      have hol : old.length = 512 := by rw [← hoe]; exact HD4.out.sec _ (List.getElem_mem hml2)
      have hoR : w4.rangeAt g2 (m * 512) (u8s old) := by
        obtain ⟨g', c', e, hr⟩ := HD4.out.las.at (fun x hx => by rw [u8s_length]; exact HD4.out.sec x hx) m hml2
        simp only [Value.slice.injEq, Option.some.injEq, Addr.mk.injEq] at e
        rw [← e.1.1, hoe] at hr
        exact hr
      have HNEW : Hid (∀ w5, Keeps (fun k => k = g2) w4 w5 → w5.heap[g2]? = some (.cells (cur.toList.take (m * 512) ++ u8s (suffered old bs fate) ++ cur.toList.drop (m * 512 + 512)).toArray 59 (0, 0)) → DiskAt w5 D2 (.slice (some ⟨g2, 0, none⟩) L.length cc2) (.slice none 0 0) ⟨crashedTo L O fates (j + 1), [], false, 0, false⟩ ∧ Same w w5) := Lib.hid (fun w5 k5 h5 => by
        refine ⟨?_, HS4.out.trans k5 (fun q hq e => by have := HFT.out g2 (.inr (.inl rfl)); omega)⟩
        have := HD4.out.put2 (crashedTo_len _ _ _ _) m hmL (suffered old bs fate) (suffered_length hol hat.1 fate) k5 (fun cur' hc' => by
          rw [hcur] at hc'
          simp only [Option.some.injEq, Obj.cells.injEq] at hc'
          rw [← hc'.1]; exact h5)
        rw [HSN1.out]
        unfold fated
        rw [hold]
        exact this)
      have HCUR := Lib.hid hcur
      have HFIT := Lib.hid hfit
      have HOR := Lib.hid hoR
      have HNW := Lib.hid hnew
      have hbs := hat.1
      clear hcur hfit hoR hnew hoe hold hat hml2 HSN1 HD4 HD3 HC0 HCB HFC hk
      go_wp2_with fail
      refine (suffer_ok g2 (m * 512) wr.heap.size 1 512 59 cur old bs fate _ HCUR.out HFIT.out HOR.out hol HNW.out hbs (by omega)).mono ?_
      rintro e w5 ⟨⟨v5, rfl⟩, hk5, hh5⟩
      have HE5 := Lib.hid (HNEW.out w5 hk5 hh5)
      clear hk5 hh5
      go_wp2
      go_roundw
      case rel => exact ⟨j + 1, by omega, by go_num, HE5.out.1, HE5.out.2⟩
      case measure => simp [intOf]; omega
    · have hlt2 : ¬ (j : Int) < (O.length : Int) := by omega
      obtain rfl : j = O.length := by omega
      have HDF : Hid (DiskAt wr D2 (.slice (some ⟨g2, 0, none⟩) L.length cc2) (.slice none 0 0) (DSt.crashed ⟨L, O, lim, left, dn⟩ fates)) := Lib.hid (by
        have := HD.out
        unfold crashedTo at this
        rw [List.take_of_length_le (by rw [List.length_zip]; omega)] at this
        exact this)
      clear hs
      go_wp2
      go_ret
      exact ⟨D2, rfl, _, HDF.out, HS.out, HFT.out⟩
end Go.Proofs.Ytoimhniijeafaaa
