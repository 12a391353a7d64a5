/- The walk of supers, and of blocks. -/
import Derived.Test.YtiddnhnfpggomaaDoorSec6
namespace Go.Proofs.YtiddnhnfpggomaaDoor
open Go.RowKit
set_option linter.unusedVariables false

/-- A struct's record as it stands in a slot. -/
def supV (s : Sup) : Value := .agg s.cells.toArray
abbrev strV (b : List UInt8) : Value := .string ⟨b.toArray⟩

set_option maxRecDepth 100000 in
set_option maxHeartbeats 12800000 in
theorem supers_any (s t : Sup) (hs : s.Ok) (ht : t.Ok) (w : World) (hN : Nums w) :
    Calls Tryd.prog 17 #[.agg s.cells.toArray, .agg t.cells.toArray] w fun e w' => e = .returned (.bool true) ∧ Same w w' := by
  have HN := Lib.hid hN
  obtain ⟨w1, hw1⟩ : ∃ w1, w.alloc (.cells s.cells.toArray 34) = w1 := ⟨_, rfl⟩
  obtain ⟨w2, hw2⟩ : ∃ w2, w1.alloc (.cells t.cells.toArray 34) = w2 := ⟨_, rfl⟩
  have hS1 : Whole w1 w.heap.size 34 s.cells := by rw [← hw1]; exact heap_alloc_new w _
  have hS2 : Whole w2 w.heap.size 34 s.cells := by rw [← hw2]; exact hS1.keep (S := fun _ => False) ((Keeps.refl _ _).alloc _) (fun e => e)
  have hT2 : Whole w2 w1.heap.size 34 t.cells := by rw [← hw2]; exact heap_alloc_new w1 _
  have hk2 : Same w w2 := by rw [← hw2, ← hw1]; exact ((Keeps.refl _ _).alloc _).alloc _
  have hiff : decide (superB s = superB t) = decide (s.nums = t.nums ∧ s.head = t.head) := by
    rw [Bool.eq_iff_iff, decide_eq_true_iff, decide_eq_true_iff]
    constructor
    · intro h
      have := superB_inj hs ht h
      subst this
      exact ⟨rfl, rfl⟩
    · rintro ⟨h1, h2⟩
      rw [sup_ext s t h1 h2]
  have HIFF := Lib.hid hiff
  clear hiff
  have his := Tryd.sizeSup s hs.head
  have hit := Tryd.sizeSup t ht.head
  go_enter Tryd.func17, Tryd.ntmps17
  go_wp2
  refine wp_region_do [[], [0], [1], [], [3, 1], [4], [2, 5], [], [], [7, 8], [6, 9], [10, 4, 0, 1, 2, 3, 4, 5, 6, 7, 8, 9, 10]]
    [some 5, some 6, some 7, some 8, some 9, some 10, some 11, some 12, some 13, some 14, some 15, some 4]
    [.is (supV s), .reads (superB s), .is (strV (superB s)), .is (supV t), .reads (superB t), .is (strV (superB t)), .is (.bool (decide (superB s = superB t))), .is (supV s), .is (supV t), .is (.bool (decide (s.nums = t.nums ∧ s.head = t.head))), .is (.bool true), .is (.bool true)]
    1 _ _ 16 12 (by kernel_rfl) (by rfl) (by rfl) (by kernel_rfl) (by kernel_rfl) (by decide) ?_ ?_
  · refine ⟨?_, ?_, ?_, ?_, ?_, ?_, ?_, ?_, ?_, ?_, ?_, ?_, trivial⟩
    · intro a w' K hs' hdep hfr hK
      have f2 := hfr 2 (by decide)
      exact plan_do (by rfl) (wp_load_row 34 (.tmp 2) rfl w.heap.size ((eval_tmp _ _).trans f2) 34 s.cells.toArray (0, 0) _ (hS2.keep hs' (fun e => e)) Tryd.underlying34 rfl his (hK _ _ (Keeps.refl _ _) rfl))
    · intro a w' K hs' hdep hfr hK
      have e5 : a.tmps[5]?.getD undef = supV s := hdep 0 (by decide) 5 rfl
      refine plan_do (by rfl) (plan_call 13 #[supV s] (by go_simp) ?_)
      exact (super_out s hs w' (HN.out.keep (hk2.trans hs' (fun _ _ e => e)) (fun e => e))).mono fun e w'' ⟨hk, g, c, he, hr⟩ => ⟨_, he, hK _ _ hk hr⟩
    · intro a w' K hs' hdep hfr hK
      have e6 : Reads w' (a.tmps[6]?.getD undef) (superB s) := hdep 1 (by decide) 6 rfl
      have k6 := run_reads e6
      refine plan_do (by rfl) (plan_yield (i := 2) (V := fun _ _ v => v = strV (superB s)) (strV (superB s)) (by go_simp) rfl hK)
    · intro a w' K hs' hdep hfr hK
      have f3 := hfr 3 (by decide)
      exact plan_do (by rfl) (wp_load_row 34 (.tmp 3) rfl w1.heap.size ((eval_tmp _ _).trans f3) 34 t.cells.toArray (0, 0) _ (hT2.keep hs' (fun e => e)) Tryd.underlying34 rfl hit (hK _ _ (Keeps.refl _ _) rfl))
    · intro a w' K hs' hdep hfr hK
      have e8 : a.tmps[8]?.getD undef = supV t := hdep 3 (by decide) 8 rfl
      refine plan_do (by rfl) (plan_call 13 #[supV t] (by go_simp) ?_)
      exact (super_out t ht w' (HN.out.keep (hk2.trans hs' (fun _ _ e => e)) (fun e => e))).mono fun e w'' ⟨hk, g, c, he, hr⟩ => ⟨_, he, hK _ _ hk hr⟩
    · intro a w' K hs' hdep hfr hK
      have e9 : Reads w' (a.tmps[9]?.getD undef) (superB t) := hdep 4 (by decide) 9 rfl
      have k9 := run_reads e9
      refine plan_do (by rfl) (plan_yield (i := 5) (V := fun _ _ v => v = strV (superB t)) (strV (superB t)) (by go_simp) rfl hK)
    · intro a w' K hs' hdep hfr hK
      have e7 : a.tmps[7]?.getD undef = strV (superB s) := hdep 2 (by decide) 7 rfl
      have e10 : a.tmps[10]?.getD undef = strV (superB t) := hdep 5 (by decide) 10 rfl
      refine plan_do (by rfl) (plan_yield (i := 6) (V := fun _ _ v => v = .bool (decide (superB s = superB t))) (.bool (decide (superB s = superB t))) ?_ rfl hK)
      go_simp
      rw [Bool.eq_iff_iff]
      simp
    · intro a w' K hs' hdep hfr hK
      have f2 := hfr 2 (by decide)
      exact plan_do (by rfl) (wp_load_row 34 (.tmp 2) rfl w.heap.size ((eval_tmp _ _).trans f2) 34 s.cells.toArray (0, 0) _ (hS2.keep hs' (fun e => e)) Tryd.underlying34 rfl his (hK _ _ (Keeps.refl _ _) rfl))
    · intro a w' K hs' hdep hfr hK
      have f3 := hfr 3 (by decide)
      exact plan_do (by rfl) (wp_load_row 34 (.tmp 3) rfl w1.heap.size ((eval_tmp _ _).trans f3) 34 t.cells.toArray (0, 0) _ (hT2.keep hs' (fun e => e)) Tryd.underlying34 rfl hit (hK _ _ (Keeps.refl _ _) rfl))
    · intro a w' K hs' hdep hfr hK
      have e12 : a.tmps[12]?.getD undef = supV s := hdep 7 (by decide) 12 rfl
      have e13 : a.tmps[13]?.getD undef = supV t := hdep 8 (by decide) 13 rfl
      exact plan_do (by rfl) (plan_yield (i := 9) (V := fun _ _ v => v = .bool (decide (s.nums = t.nums ∧ s.head = t.head))) (.bool (decide (s.nums = t.nums ∧ s.head = t.head)))
        (exec_eql_is (.tmp 12) (.tmp 13) 34 _ rfl _ _ _ ((eval_tmp _ _).trans e12) ((eval_tmp _ _).trans e13) Tryd.supGuard (sup_equal s t hs.head ht.head)) rfl hK)
    · intro a w' K hs' hdep hfr hK
      have e11 : a.tmps[11]?.getD undef = .bool (decide (superB s = superB t)) := hdep 6 (by decide) 11 rfl
      have e14 : a.tmps[14]?.getD undef = .bool (decide (superB s = superB t)) := (hdep 9 (by decide) 14 rfl).trans (congrArg Value.bool HIFF.out.symm)
      refine plan_do (by rfl) (plan_yield (i := 10) (V := fun _ _ v => v = .bool true) (.bool true) (by go_simp) rfl hK)
    · intro a w' K hs' hdep hfr hK
      have e15 : a.tmps[15]?.getD undef = .bool true := hdep 10 (by decide) 15 rfl
      refine plan_do (by rfl) (plan_yield (i := 11) (V := fun _ _ v => v = .bool true) (.bool true) (by go_simp) rfl hK)
  · intro a w' hs' hdef hsz hv hfr
    have e4 : a.tmps[4]?.getD undef = .bool true := hv 11 4 rfl
    go_wp2
    refine bodyPost_ret (results_tmp (t := 4) rfl _ _ _) hdef ⟨?_, hk2.trans hs' (fun _ _ e => e)⟩
    rw [Array.getD_eq_getD_getElem?, e4]

set_option maxRecDepth 100000 in
set_option maxHeartbeats 12800000 in
theorem blocks_any (ao bo : Option Addr) (c d : Nat) (bs rs : List UInt8) (w : World) (hb : Reads w (.slice ao bs.length c) bs) (hr : Reads w (.slice bo rs.length d) rs) :
    Calls Tryd.prog 18 #[.slice ao bs.length c, .slice bo rs.length d] w fun e w' => e = .returned (.bool true) ∧ Same w w' := by
  have HB := Lib.hid hb
  have HR := Lib.hid hr
  have HBB : Hid (Bytes w (.slice ao bs.length c) bs) := Lib.hid (by obtain ⟨_, _, _, h, _⟩ := hb; exact h)
  have HRB : Hid (Bytes w (.slice bo rs.length d) rs) := Lib.hid (by obtain ⟨_, _, _, h, _⟩ := hr; exact h)
  clear hb hr
  go_enter Tryd.func18, Tryd.ntmps18
  go_wp2_with fail
  ((with_reducible refine (wrap_out _ bs.length c bs _ rfl HBB.out).mono ?_); rintro e w1 ⟨hk1, v1, rfl, hr1⟩)
  have HK1 := Lib.hid hk1
  have HV1 := Lib.hid hr1
  clear hk1 hr1
  go_wp2_with fail
  ((with_reducible refine (wrap_out _ rs.length d rs _ rfl (HRB.out.same HK1.out)).mono ?_); rintro e w2 ⟨hk2, v2, rfl, hr2⟩)
  have HK2 : Hid (Same w w2) := Lib.hid (HK1.out.trans hk2 (fun _ _ e => e))
  have k1 := run_reads (HV1.out.same hk2)
  have k2 := run_reads hr2
  have k3 := run_reads (HB.out.same HK2.out)
  have k4 := run_reads (HR.out.same HK2.out)
  clear hk2 hr2 HK1 HV1
  by_cases q1 : bs.length ≤ 470
  case neg =>
    have e1 : wrapErr bs = 23 := by rw [wrapErr, if_neg q1]
    rw [e1]
    clear e1
    go_wp2
    go_ret
    exact ⟨rfl, HK2.out⟩
  have e1 : wrapErr bs = 0 := by rw [wrapErr, if_pos q1]
  have o1 : wrapOut bs = wrapB bs := by rw [wrapOut, if_pos q1]
  rw [e1]
  rw [o1] at k1
  clear e1 o1
  by_cases q2 : rs.length ≤ 470
  case neg =>
    have e2 : wrapErr rs = 23 := by rw [wrapErr, if_neg q2]
    rw [e2]
    clear e2
    go_wp2
    go_ret
    exact ⟨rfl, HK2.out⟩
  have e2 : wrapErr rs = 0 := by rw [wrapErr, if_pos q2]
  have o2 : wrapOut rs = wrapB rs := by rw [wrapOut, if_pos q2]
  rw [e2]
  rw [o2] at k2
  clear e2 o2
  have HIFF : Hid ((wrapB bs = wrapB rs) ↔ (bs = rs)) := Lib.hid ⟨fun h => wrapB_inj q1 q2 h, fun h => by rw [h]⟩
  go_wp2
  go_ret
  refine ⟨?_, HK2.out⟩
  have hbeq : (wrapB bs == wrapB rs) = (bs == rs) := by rw [Bool.eq_iff_iff, beq_iff_eq, beq_iff_eq]; exact HIFF.out
  simp [hbeq]

/-- A struct loaded out of a greater block. -/
theorem wpList_load_at {P : Program} {ops : Array Oper} {rest : List Oper} {o : Oper} {a : Act} {w : World} {Q : Exit → Act → World → Prop} (hw : Region.wanted o (yielded ops a.tmps) = true) (ty : TypeId) (x : Operand) (ho : o.op = .load ty x)
    (g off : Nat) (hx : a.eval x = .pointer (some ⟨g, off, none⟩)) (cs : List Value) (d : TypeDesc) (hc : ∀ j v, cs[j]? = some v → w.cell? ⟨g, off + j, none⟩ = some v)
    (hu : P.underlying ty = some d) (hd : (match d with | .struct _ | .array _ _ => true | _ => false) = true) (hi : (P.info? ty).map (·.size) = some cs.length)
    (h : wpList P ops Q rest (a.put o.dst (.agg cs.toArray)) w) : wpList P ops Q (o :: rest) a w := by
  refine wpList_step fun K hK' => ?_
  rw [if_pos hw]
  have hl : (loadCells ⟨g, off, none⟩ cs.length).run P w = .ok cs.toArray w :=
    run_loadCells_list (P := P) w ⟨g, off, none⟩ cs (fun j v hv => by rw [add_at]; exact hc j v hv)
  have hv : (loadVar ty ⟨g, off, none⟩).run P w = .ok (.agg cs.toArray) w := by
    cases hq : P.info? ty with
    | none => simp [hq] at hi
    | some i =>
      have hs : i.size = cs.length := by simpa [hq] using hi
      have hagg : (isAgg ty).run P w = .ok true w := by
        unfold isAgg
        rw [Sem.run_bind, run_underlying hu w]
        cases d <;> simp_all
      simp [loadVar, Sem.run_bind, hagg, sizeOf, typeInfo, hq, hs, hl]
  unfold Oper.wp execOp
  simp only [ho, hx, Instr.loadAt, Instr.sureAddr, Sem.run_bind, Sem.run_pure, Result.andThen_ok, hv]
  exact hK' _ _ h

set_option maxRecDepth 100000 in
set_option maxHeartbeats 12800000 in
theorem unlike_any (s t : Sup) (hs : s.Ok) (ht : t.Ok) (ao bo : Option Addr) (c d : Nat) (bs rs : List UInt8) (w : World) (hN : Nums w) (hb : Reads w (.slice ao bs.length c) bs) (hr : Reads w (.slice bo rs.length d) rs) :
    Calls Tryd.prog 7 #[.agg (s.cells ++ t.cells).toArray, .slice ao bs.length c, .slice bo rs.length d] w fun e w' => e = .returned (.bool true) ∧ Same w w' := by
  have HN := Lib.hid hN
  have HB := Lib.hid hb
  have HR := Lib.hid hr
  have HS := Lib.hid hs
  have HT := Lib.hid ht
  have hsl := cells_length s hs.head
  have htl := cells_length t ht.head
  have HI1 : Hid ((Tryd.prog.info? 34).map (·.size) = some s.cells.length) := Lib.hid (by have := Tryd.sizeSup s hs.head; simpa using this)
  have HI2 : Hid ((Tryd.prog.info? 34).map (·.size) = some t.cells.length) := Lib.hid (by have := Tryd.sizeSup t ht.head; simpa using this)
  obtain ⟨w0, hw0⟩ : ∃ w0, w.alloc (.cells (s.cells ++ t.cells).toArray 43) = w0 := ⟨_, rfl⟩
  have HX : Hid (Whole w0 w.heap.size 43 (s.cells ++ t.cells)) := Lib.hid (by rw [← hw0]; exact heap_alloc_new w _)
  have HK0 : Hid (Same w w0) := Lib.hid (by rw [← hw0]; exact (Keeps.refl _ _).alloc _)
  have HSL := Lib.hid hsl
  clear hN hb hr hs ht hsl htl
  go_enter Tryd.func7, Tryd.ntmps7
  go_wp2_with fail
  ((with_reducible refine (speaks04 _ (HN.out.keep HK0.out (fun e => e))).mono ?_); rintro e w1 ⟨rfl, hk1⟩)
  have HK1 : Hid (Same w w1) := Lib.hid (HK0.out.trans hk1 (fun _ _ e => e))
  have HX1 := Lib.hid (HX.out.keep hk1 (fun e => e))
  have HC1 : Hid (∀ j v, s.cells[j]? = some v → w1.cell? ⟨w.heap.size, 0 + j, none⟩ = some v) := Lib.hid (fun j v hv => HX1.out.cell (by
    have hj := (List.getElem?_eq_some_iff.1 hv).1
    rw [Nat.zero_add, List.getElem?_append_left hj]; exact hv))
  have HC2 : Hid (∀ j v, t.cells[j]? = some v → w1.cell? ⟨w.heap.size, 37 + j, none⟩ = some v) := Lib.hid (fun j v hv => HX1.out.cell (by
    rw [List.getElem?_append_right (by rw [HSL.out]; omega), HSL.out, show 37 + j - 37 = j from by omega]; exact hv))
  clear hk1 HX HK0 hw0
  go_wp2_with (first
    | (refine wpList_load_at (by rfl) 34 _ (by rfl) w.heap.size 0 (by rfl) s.cells _ HC1.out Tryd.underlying34 rfl HI1.out ?_)
    | (refine wpList_load_at (by rfl) 34 _ (by rfl) w.heap.size 37 (by rfl) t.cells _ HC2.out Tryd.underlying34 rfl HI2.out ?_))
  ((with_reducible refine (supers_any s t HS.out HT.out _ (HN.out.keep HK1.out (fun e => e))).mono ?_); rintro e w2 ⟨rfl, hk2⟩)
  have HK2 : Hid (Same w w2) := Lib.hid (HK1.out.trans hk2 (fun _ _ e => e))
  clear hk2 HK1 HX1 HC1 HC2
  go_wp2_with fail
  ((with_reducible refine (blocks_any ao bo c d bs rs _ (HB.out.same HK2.out) (HR.out.same HK2.out)).mono ?_); rintro e w3 ⟨rfl, hk3⟩)
  have HK3 : Hid (Same w w3) := Lib.hid (HK2.out.trans hk3 (fun _ _ e => e))
  clear hk3
  go_wp2
  go_ret
  exact ⟨rfl, HK3.out⟩

end Go.Proofs.YtiddnhnfpggomaaDoor
