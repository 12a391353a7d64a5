/- (*client.Client).Take. -/
import Derived.Test.YtlglkkoippoafaaCl2
import Derived.Test.YtlglkkoippoafaaLrow
namespace Go.Proofs.Ytlglkkoippoafaa
open Go.RowKit
set_option linter.unusedVariables false

/-- A message that answers a client's call. -/
def Cl.Answers (c : Cl) (m : Msg) : Prop := c.wt = true ∧ m.k = 2 ∧ m.Right ∧ m.cl = c.id ∧ m.nr = c.nr
def Cl.rests (c : Cl) : Cl := ⟨c.id, c.nr, c.k, c.off, c.n, c.p, c.t, c.xo, c.xc, c.ds, false⟩
/-- A message's answer lies apart from a block. -/
def Msg.Off (m : Msg) (B : Nat) : Prop := (∀ a, m.ao = some a → m.ad ≠ [] → a.block ≠ B) ∧ (∀ a, m.no = some a → m.ns ≠ [] → a.block ≠ B)
theorem right_ans {m : Msg} (h : m.Right) (hk : m.k = 2) : AnsRight m.ac m.an m.ad.length m.ns := by
  have := h.ans
  unfold Msg.AnsOk at this
  rwa [if_pos hk] at this
def TakePost (w : World) (B : Nat) (c : Cl) (m : Msg) (e : Ending) (w' : World) : Prop :=
  (c.Answers m ∧ ∃ y bo bc, e = .returned (.tuple #[.agg (ansL m.ac m.an y (.slice bo m.ns.length bc)).toArray, .bool true]) ∧ Reads w' y m.ad ∧ Strs w' (.slice bo m.ns.length bc) m.ns ∧ Keeps (fun q => q = B) w w' ∧ ClAt w' B c.rests) ∨
  (¬ c.Answers m ∧ e = .returned (.tuple #[.agg ansL0.toArray, .bool false]) ∧ Same w w')

set_option maxRecDepth 100000 in
set_option maxHeartbeats 12800000 in
theorem take_any (B : Nat) (c : Cl) (m : Msg) (w : World) (h : ClAt w B c) (hm : MsgIn w m) (hoff : m.Off B) : Calls Try.prog 16 #[.pointer (some ⟨B, 0, none⟩), .agg m.cells.toArray] w (TakePost w B c m) := by
  have hzs := Try.zeroAnsL
  have HM := Lib.hid hm
  have HC := Lib.hid h
  have HOFF := Lib.hid hoff
  obtain ⟨w1, hw1⟩ : ∃ w1, w.alloc (.cells m.cells.toArray 45) = w1 := ⟨_, rfl⟩
  obtain ⟨w2, hw2⟩ : ∃ w2, w1.alloc (.cells ansL0.toArray 41) = w2 := ⟨_, rfl⟩
  have hs1 : w1.heap.size = w.heap.size + 1 := by rw [← hw1]; simp
  have HLT : Hid (B < w.heap.size ∧ w.heap.size < w1.heap.size ∧ w1.heap.size < w2.heap.size) := Lib.hid (by have := h.wh.lt; rw [← hw2]; simp; omega)
  have HK : Hid (Same w w2) := Lib.hid (by rw [← hw2, ← hw1]; exact ((Keeps.refl _ _).alloc _).alloc _)
  have HMT0 : Hid (MsgAt w2 w.heap.size m) := Lib.hid (by
    have h1 : MsgAt w1 w.heap.size m := by rw [← hw1]; exact MsgAt.new w m hm.hd
    rw [← hw2]; exact h1.keep ((Keeps.refl (fun _ => False) _).alloc _) (fun e => e))
  have HA : Hid (Whole w2 w1.heap.size 41 ansL0) := Lib.hid (by rw [← hw2]; exact heap_alloc_new w1 _)
  have HAW : Hid (w2.heap[w1.heap.size]? = some (.cells ansL0.toArray 41 (0, 0))) := Lib.hid HA.out
  have HSZ := Lib.hid (Try.sizeMsgOf m hm.hd)
  have HMW : Hid (w2.heap[w.heap.size]? = some (.cells m.cells.toArray 45 (0, 0))) := Lib.hid HMT0.out.1
  have HC2 := Lib.hid (HC.out.same HK.out)
  have b8 : w2.cell? ⟨B, 8, none⟩ = some (.bool c.wt) := HC2.out.wh.cell (i := 8) rfl
  have a0 : w2.cell? ⟨w.heap.size, 0, none⟩ = some (.int .i64 m.k) := HMT0.out.low 0 _ (by omega) rfl
  have HCK := Lib.hid (checkMsg_any m w2 (HM.out.same HK.out))
  unfold CheckPost at HCK
  clear h hm hs1 hoff
  cases hwt : c.wt with
  | false =>
    have HF : Hid (¬ c.Answers m) := Lib.hid (fun e => by have := e.1; rw [hwt] at this; cases this)
    rw [hwt] at b8
    clear hwt
    have HEND : Hid (Same w (w2.setRow w1.heap.size ansL0.toArray) ∧ Whole (w2.setRow w1.heap.size ansL0.toArray) w1.heap.size 41 ansL0) := Lib.hid ⟨HK.out.setRow _ _ (.inl (by have := HLT.out; omega)), HA.out.row⟩
    go_enter Try.func16, Try.ntmps16
    go_wp2_with (first
      | (refine wpList_buildTo (by rfl) 41 _ (by rfl) _ (by rfl) ansL0.toArray (by kernel_rfl) ?_)
      | (refine wpList_store_row (by rfl) 41 (.tmp 4) _ (by rfl) w1.heap.size ansL0.toArray (by rfl) (by rfl) 41 ansL0.toArray HAW.out (by exact Try.sizeAnsW) rfl (ansL_all _ _ _ _ _ _ _ _) ?_))
    refine bodyPost_ret (v := .tuple #[.agg ansL0.toArray, .bool false]) (results_row_tmp (p := 4) (u := 5) (ty := 41) rfl _ _ w1.heap.size 41 _ (0, 0) _ (by rfl) HEND.out.2 Try.underlying41 rfl (by exact Try.sizeAnsW)) rfl (.inr ⟨HF.out, rfl, HEND.out.1⟩)
  | true =>
  have HWT := Lib.hid hwt
  rw [hwt] at b8
  clear hwt
  by_cases hk2 : m.k = 2
  case neg =>
    have HF : Hid (¬ c.Answers m) := Lib.hid (fun e => hk2 e.2.1)
    have e2 : (m.k != 2) = true := by simpa using hk2
    clear hk2
    have HEND : Hid (Same w (w2.setRow w1.heap.size ansL0.toArray) ∧ Whole (w2.setRow w1.heap.size ansL0.toArray) w1.heap.size 41 ansL0) := Lib.hid ⟨HK.out.setRow _ _ (.inl (by have := HLT.out; omega)), HA.out.row⟩
    go_enter Try.func16, Try.ntmps16
    go_wp2_with (first
      | (refine wpList_buildTo (by rfl) 41 _ (by rfl) _ (by rfl) ansL0.toArray (by kernel_rfl) ?_)
      | (refine wpList_store_row (by rfl) 41 (.tmp 4) _ (by rfl) w1.heap.size ansL0.toArray (by rfl) (by rfl) 41 ansL0.toArray HAW.out (by exact Try.sizeAnsW) rfl (ansL_all _ _ _ _ _ _ _ _) ?_))
    refine bodyPost_ret (v := .tuple #[.agg ansL0.toArray, .bool false]) (results_row_tmp (p := 4) (u := 5) (ty := 41) rfl _ _ w1.heap.size 41 _ (0, 0) _ (by rfl) HEND.out.2 Try.underlying41 rfl (by exact Try.sizeAnsW)) rfl (.inr ⟨HF.out, rfl, HEND.out.1⟩)
  have e2 : (m.k != 2) = false := by simpa using hk2
  have HK2 := Lib.hid hk2
  clear hk2
  go_enter Try.func16, Try.ntmps16
  go_wp2_with ((with_reducible refine wpList_load_row_w ?_ 45 (.tmp 3) ?_ w.heap.size ?_ 45 m.cells.toArray (0, 0) _ HMW.out Try.underlying45 ?_ HSZ.out ?_); rfl; rfl; rfl; rfl)
  ((with_reducible refine (HCK.out).mono ?_); rintro e w3 ⟨r, rfl, hr, hk3⟩)
  have HKW := Lib.hid (HK.out.trans hk3 (fun _ _ e => e))
  have HMT := Lib.hid (HMT0.out.keep hk3 (fun e => e))
  have HA3 := Lib.hid (HA.out.keep hk3 (fun e => e))
  have HAW3 : Hid (w3.heap[w1.heap.size]? = some (.cells ansL0.toArray 41 (0, 0))) := Lib.hid HA3.out
  have HCL := Lib.hid (HC2.out.same hk3)
  have HSZ3 : Hid (w2.heap.size ≤ w3.heap.size) := Lib.hid hk3.size
  have HEND : Hid (Same w (w3.setRow w1.heap.size ansL0.toArray) ∧ Whole (w3.setRow w1.heap.size ansL0.toArray) w1.heap.size 41 ansL0) := Lib.hid ⟨HKW.out.setRow _ _ (.inl (by have := HLT.out; omega)), HA3.out.row⟩
  clear hk3 HA HAW HMW HC2 HMT0 hw1 hw2 b8 a0
  rcases hr with ⟨rfl, hR⟩ | ⟨rfl, hR⟩
  case inr =>
    have HF : Hid (¬ c.Answers m) := Lib.hid (fun e => hR e.2.2.1)
    clear hR
    go_wp2_with (first
      | (refine wpList_buildTo (by rfl) 41 _ (by rfl) _ (by rfl) ansL0.toArray (by kernel_rfl) ?_)
      | (refine wpList_store_row (by rfl) 41 (.tmp 4) _ (by rfl) w1.heap.size ansL0.toArray (by rfl) (by rfl) 41 ansL0.toArray HAW3.out (by exact Try.sizeAnsW) rfl (ansL_all _ _ _ _ _ _ _ _) ?_))
    refine bodyPost_ret (v := .tuple #[.agg ansL0.toArray, .bool false]) (results_row_tmp (p := 4) (u := 5) (ty := 41) rfl _ _ w1.heap.size 41 _ (0, 0) _ (by rfl) HEND.out.2 Try.underlying41 rfl (by exact Try.sizeAnsW)) rfl (.inr ⟨HF.out, rfl, HEND.out.1⟩)
  have HR := Lib.hid hR
  clear hR
  by_cases q1 : m.cl = c.id
  case neg =>
    have HF : Hid (¬ c.Answers m) := Lib.hid (fun e => q1 e.2.2.2.1)
    have HQ1 : Hid ((m.cl != c.id) = true) := Lib.hid (by simpa using q1)
    clear q1
    go_wp2
    refine wp_region_do [[], [0], [1], [], [3], [4], [5], [6], [2, 7], [8], [9], [10, 9], [11, 9], [9], [13, 9], [14, 9], [15, 9], [16, 9], [12, 17, 9], [9, 18]]
      [some 22, some 23, some 24, some 25, some 26, some 27, some 28, some 29, some 30, some 31, some 32, some 33, some 34, some 35, some 36, some 37, some 38, some 39, some 40, some 41]
      [.is (.pointer (some ⟨w.heap.size, 39, none⟩)), .is (.pointer (some ⟨w.heap.size, 39, none⟩)), .is (.int .i64 m.cl), .is (.pointer (some ⟨B, 0, none⟩)), .is (.pointer (some ⟨B, 0, none⟩)), .is (.pointer (some ⟨B, 0, none⟩)), .is (.pointer (some ⟨B, 0, none⟩)), .is (.int .i64 c.id), .is (.bool true), .is (.bool true), .any, .any, .any, .any, .any, .any, .any, .any, .any, .is (.bool true)]
      3 _ _ 49 20 (by kernel_rfl) (by rfl) (by rfl) (by kernel_rfl) (by kernel_rfl) (by decide) ?_ ?_
    · refine ⟨?_, ?_, ?_, ?_, ?_, ?_, ?_, ?_, ?_, ?_, ?_, ?_, ?_, ?_, ?_, ?_, ?_, ?_, ?_, ?_, trivial⟩
      · intro a w' K hs' hdep hfr hK
        have f3 := hfr 3 (by decide)
        exact plan_do (by rfl) (plan_yield (i := 0) (V := fun _ _ v => v = (.pointer (some ⟨w.heap.size, 39, none⟩) : Value)) (.pointer (some ⟨w.heap.size, 39, none⟩)) (by go_simp) rfl hK)
      · intro a w' K hs' hdep hfr hK
        have e22 : a.tmps[22]?.getD undef = (.pointer (some ⟨w.heap.size, 39, none⟩)) := hdep 0 (by decide) 22 rfl
        exact plan_do (by rfl) (plan_yield (i := 1) (V := fun _ _ v => v = (.pointer (some ⟨w.heap.size, 39, none⟩) : Value)) (.pointer (some ⟨w.heap.size, 39, none⟩)) (by go_simp) rfl hK)
      · intro a w' K hs' hdep hfr hK
        have e23 : a.tmps[23]?.getD undef = (.pointer (some ⟨w.heap.size, 39, none⟩)) := hdep 1 (by decide) 23 rfl
        have cl := (HMT.out.keep hs' (fun e => e)).high 0 39 _ rfl rfl
        exact plan_do (by rfl) (plan_yield (i := 2) (V := fun _ _ v => v = (.int .i64 m.cl : Value)) (.int .i64 m.cl) (by go_simp) rfl hK)
      · intro a w' K hs' hdep hfr hK
        have f0 := hfr 0 (by decide)
        exact plan_do (by rfl) (plan_yield (i := 3) (V := fun _ _ v => v = (.pointer (some ⟨B, 0, none⟩) : Value)) (.pointer (some ⟨B, 0, none⟩)) (by go_simp) rfl hK)
      · intro a w' K hs' hdep hfr hK
        have e25 : a.tmps[25]?.getD undef = (.pointer (some ⟨B, 0, none⟩)) := hdep 3 (by decide) 25 rfl
        exact plan_do (by rfl) (plan_yield (i := 4) (V := fun _ _ v => v = (.pointer (some ⟨B, 0, none⟩) : Value)) (.pointer (some ⟨B, 0, none⟩)) (by go_simp) rfl hK)
      · intro a w' K hs' hdep hfr hK
        have e26 : a.tmps[26]?.getD undef = (.pointer (some ⟨B, 0, none⟩)) := hdep 4 (by decide) 26 rfl
        exact plan_do (by rfl) (plan_yield (i := 5) (V := fun _ _ v => v = (.pointer (some ⟨B, 0, none⟩) : Value)) (.pointer (some ⟨B, 0, none⟩)) (by go_simp) rfl hK)
      · intro a w' K hs' hdep hfr hK
        have e27 : a.tmps[27]?.getD undef = (.pointer (some ⟨B, 0, none⟩)) := hdep 5 (by decide) 27 rfl
        exact plan_do (by rfl) (plan_yield (i := 6) (V := fun _ _ v => v = (.pointer (some ⟨B, 0, none⟩) : Value)) (.pointer (some ⟨B, 0, none⟩)) (by go_simp) rfl hK)
      · intro a w' K hs' hdep hfr hK
        have e28 : a.tmps[28]?.getD undef = (.pointer (some ⟨B, 0, none⟩)) := hdep 6 (by decide) 28 rfl
        have cl := (HCL.out.same hs').wh.cell (i := 0) rfl
        exact plan_do (by rfl) (plan_yield (i := 7) (V := fun _ _ v => v = (.int .i64 c.id : Value)) (.int .i64 c.id) (by go_simp) rfl hK)
      · intro a w' K hs' hdep hfr hK
        have e24 : a.tmps[24]?.getD undef = (.int .i64 m.cl) := hdep 2 (by decide) 24 rfl
        have e29 : a.tmps[29]?.getD undef = (.int .i64 c.id) := hdep 7 (by decide) 29 rfl
        have q1 := HQ1.out
        exact plan_do (by rfl) (plan_yield (i := 8) (V := fun _ _ v => v = (.bool true : Value)) (.bool true) (by go_simp) rfl hK)
      · intro a w' K hs' hdep hfr hK
        have e30 : a.tmps[30]?.getD undef = (.bool true) := hdep 8 (by decide) 30 rfl
        exact plan_do (by rfl) (plan_yield (i := 9) (V := fun _ _ v => v = (.bool true : Value)) (.bool true) (by go_simp) rfl hK)
      · intro a w' K hs' hdep hfr hK
        have e31 : a.tmps[31]?.getD undef = (.bool true) := hdep 9 (by decide) 31 rfl
        have f3 := hfr 3 (by decide)
        exact plan_skip (unwanted_by 9 31 false rfl rfl e31) (hK _ _ (Keeps.refl _ _) trivial)
      · intro a w' K hs' hdep hfr hK
        have e31 : a.tmps[31]?.getD undef = (.bool true) := hdep 9 (by decide) 31 rfl
        exact plan_skip (unwanted_by 9 31 false rfl rfl e31) (hK _ _ (Keeps.refl _ _) trivial)
      · intro a w' K hs' hdep hfr hK
        have e31 : a.tmps[31]?.getD undef = (.bool true) := hdep 9 (by decide) 31 rfl
        exact plan_skip (unwanted_by 9 31 false rfl rfl e31) (hK _ _ (Keeps.refl _ _) trivial)
      · intro a w' K hs' hdep hfr hK
        have e31 : a.tmps[31]?.getD undef = (.bool true) := hdep 9 (by decide) 31 rfl
        have f0 := hfr 0 (by decide)
        exact plan_skip (unwanted_by 9 31 false rfl rfl e31) (hK _ _ (Keeps.refl _ _) trivial)
      · intro a w' K hs' hdep hfr hK
        have e31 : a.tmps[31]?.getD undef = (.bool true) := hdep 9 (by decide) 31 rfl
        exact plan_skip (unwanted_by 9 31 false rfl rfl e31) (hK _ _ (Keeps.refl _ _) trivial)
      · intro a w' K hs' hdep hfr hK
        have e31 : a.tmps[31]?.getD undef = (.bool true) := hdep 9 (by decide) 31 rfl
        exact plan_skip (unwanted_by 9 31 false rfl rfl e31) (hK _ _ (Keeps.refl _ _) trivial)
      · intro a w' K hs' hdep hfr hK
        have e31 : a.tmps[31]?.getD undef = (.bool true) := hdep 9 (by decide) 31 rfl
        exact plan_skip (unwanted_by 9 31 false rfl rfl e31) (hK _ _ (Keeps.refl _ _) trivial)
      · intro a w' K hs' hdep hfr hK
        have e31 : a.tmps[31]?.getD undef = (.bool true) := hdep 9 (by decide) 31 rfl
        exact plan_skip (unwanted_by 9 31 false rfl rfl e31) (hK _ _ (Keeps.refl _ _) trivial)
      · intro a w' K hs' hdep hfr hK
        have e31 : a.tmps[31]?.getD undef = (.bool true) := hdep 9 (by decide) 31 rfl
        exact plan_skip (unwanted_by 9 31 false rfl rfl e31) (hK _ _ (Keeps.refl _ _) trivial)
      · intro a w' K hs' hdep hfr hK
        have e31 : a.tmps[31]?.getD undef = (.bool true) := hdep 9 (by decide) 31 rfl
        exact plan_do (by rfl) (plan_yield (i := 19) (V := fun _ _ v => v = (.bool true : Value)) (.bool true) (by go_simp) rfl hK)
    intro a wz hkz hdef hsz hv hfr
    have e41 : a.tmps[41]?.getD undef = (.bool true) := hv 19 41 rfl
    have he := act_eq a _ [some 22, some 23, some 24, some 25, some 26, some 27, some 28, some 29, some 30, some 31, some 32, some 33, some 34, some 35, some 36, some 37, some 38, some 39, some 40, some 41] 49 rfl hsz hdef hfr (fun d => a.tmps[d]?.getD undef) (fun _ _ => rfl)
    obtain ⟨v22, h22⟩ : ∃ v, a.tmps[22]?.getD undef = v := ⟨_, rfl⟩
    obtain ⟨v23, h23⟩ : ∃ v, a.tmps[23]?.getD undef = v := ⟨_, rfl⟩
    obtain ⟨v24, h24⟩ : ∃ v, a.tmps[24]?.getD undef = v := ⟨_, rfl⟩
    obtain ⟨v25, h25⟩ : ∃ v, a.tmps[25]?.getD undef = v := ⟨_, rfl⟩
    obtain ⟨v26, h26⟩ : ∃ v, a.tmps[26]?.getD undef = v := ⟨_, rfl⟩
    obtain ⟨v27, h27⟩ : ∃ v, a.tmps[27]?.getD undef = v := ⟨_, rfl⟩
    obtain ⟨v28, h28⟩ : ∃ v, a.tmps[28]?.getD undef = v := ⟨_, rfl⟩
    obtain ⟨v29, h29⟩ : ∃ v, a.tmps[29]?.getD undef = v := ⟨_, rfl⟩
    obtain ⟨v30, h30⟩ : ∃ v, a.tmps[30]?.getD undef = v := ⟨_, rfl⟩
    obtain ⟨v31, h31⟩ : ∃ v, a.tmps[31]?.getD undef = v := ⟨_, rfl⟩
    obtain ⟨v32, h32⟩ : ∃ v, a.tmps[32]?.getD undef = v := ⟨_, rfl⟩
    obtain ⟨v33, h33⟩ : ∃ v, a.tmps[33]?.getD undef = v := ⟨_, rfl⟩
    obtain ⟨v34, h34⟩ : ∃ v, a.tmps[34]?.getD undef = v := ⟨_, rfl⟩
    obtain ⟨v35, h35⟩ : ∃ v, a.tmps[35]?.getD undef = v := ⟨_, rfl⟩
    obtain ⟨v36, h36⟩ : ∃ v, a.tmps[36]?.getD undef = v := ⟨_, rfl⟩
    obtain ⟨v37, h37⟩ : ∃ v, a.tmps[37]?.getD undef = v := ⟨_, rfl⟩
    obtain ⟨v38, h38⟩ : ∃ v, a.tmps[38]?.getD undef = v := ⟨_, rfl⟩
    obtain ⟨v39, h39⟩ : ∃ v, a.tmps[39]?.getD undef = v := ⟨_, rfl⟩
    obtain ⟨v40, h40⟩ : ∃ v, a.tmps[40]?.getD undef = v := ⟨_, rfl⟩
    simp only [putAll, e41, h22, h23, h24, h25, h26, h27, h28, h29, h30, h31, h32, h33, h34, h35, h36, h37, h38, h39, h40, List.setIfInBounds_toArray, List.set_cons_zero, List.set_cons_succ] at he
    clear e41 h22 h23 h24 h25 h26 h27 h28 h29 h30 h31 h32 h33 h34 h35 h36 h37 h38 h39 h40 hdef hsz hv hfr
    subst he
    have HKZ := Lib.hid hkz
    have HAZ := Lib.hid (HA3.out.keep hkz (fun e => e))
    have HAWZ : Hid (wz.heap[w1.heap.size]? = some (.cells ansL0.toArray 41 (0, 0))) := Lib.hid HAZ.out
    have HKWZ := Lib.hid (HKW.out.trans hkz (fun _ _ e => e))
    clear hkz HEND
    have HEND : Hid (Same w (wz.setRow w1.heap.size ansL0.toArray) ∧ Whole (wz.setRow w1.heap.size ansL0.toArray) w1.heap.size 41 ansL0) := Lib.hid ⟨HKWZ.out.setRow _ _ (.inl (by have := HLT.out; omega)), HAZ.out.row⟩
    go_wp2_with (first
      | (refine wpList_buildTo (by rfl) 41 _ (by rfl) _ (by rfl) ansL0.toArray (by kernel_rfl) ?_)
      | (refine wpList_store_row (by rfl) 41 (.tmp 4) _ (by rfl) w1.heap.size ansL0.toArray (by rfl) (by rfl) 41 ansL0.toArray HAWZ.out (by exact Try.sizeAnsW) rfl (ansL_all _ _ _ _ _ _ _ _) ?_))
    refine bodyPost_ret (v := .tuple #[.agg ansL0.toArray, .bool false]) (results_row_tmp (p := 4) (u := 5) (ty := 41) rfl _ _ w1.heap.size 41 _ (0, 0) _ (by rfl) HEND.out.2 Try.underlying41 rfl (by exact Try.sizeAnsW)) rfl (.inr ⟨HF.out, rfl, HEND.out.1⟩)
  have HQ1 : Hid ((m.cl != c.id) = false) := Lib.hid (by simpa using q1)
  have HE1 := Lib.hid q1
  clear q1
  by_cases q2 : m.nr = c.nr
  case neg =>
    have HF : Hid (¬ c.Answers m) := Lib.hid (fun e => q2 e.2.2.2.2)
    have HQ2 : Hid (((m.nr : Int) != (c.nr : Int)) = true) := Lib.hid (by simp; omega)
    clear q2
    go_wp2
    refine wp_region_do [[], [0], [1], [], [3], [4], [5], [6], [2, 7], [8], [9], [10, 9], [11, 9], [9], [13, 9], [14, 9], [15, 9], [16, 9], [12, 17, 9], [9, 18]]
      [some 22, some 23, some 24, some 25, some 26, some 27, some 28, some 29, some 30, some 31, some 32, some 33, some 34, some 35, some 36, some 37, some 38, some 39, some 40, some 41]
      [.is (.pointer (some ⟨w.heap.size, 39, none⟩)), .is (.pointer (some ⟨w.heap.size, 39, none⟩)), .is (.int .i64 m.cl), .is (.pointer (some ⟨B, 0, none⟩)), .is (.pointer (some ⟨B, 0, none⟩)), .is (.pointer (some ⟨B, 0, none⟩)), .is (.pointer (some ⟨B, 0, none⟩)), .is (.int .i64 c.id), .is (.bool false), .is (.bool false), .is (.pointer (some ⟨w.heap.size, 39, none⟩)), .is (.pointer (some ⟨w.heap.size, 40, none⟩)), .is (.int .u64 (m.nr : Int)), .is (.pointer (some ⟨B, 0, none⟩)), .is (.pointer (some ⟨B, 0, none⟩)), .is (.pointer (some ⟨B, 0, none⟩)), .is (.pointer (some ⟨B, 1, none⟩)), .is (.int .u64 (c.nr : Int)), .is (.bool true), .is (.bool true)]
      3 _ _ 49 20 (by kernel_rfl) (by rfl) (by rfl) (by kernel_rfl) (by kernel_rfl) (by decide) ?_ ?_
    · refine ⟨?_, ?_, ?_, ?_, ?_, ?_, ?_, ?_, ?_, ?_, ?_, ?_, ?_, ?_, ?_, ?_, ?_, ?_, ?_, ?_, trivial⟩
      · intro a w' K hs' hdep hfr hK
        have f3 := hfr 3 (by decide)
        exact plan_do (by rfl) (plan_yield (i := 0) (V := fun _ _ v => v = (.pointer (some ⟨w.heap.size, 39, none⟩) : Value)) (.pointer (some ⟨w.heap.size, 39, none⟩)) (by go_simp) rfl hK)
      · intro a w' K hs' hdep hfr hK
        have e22 : a.tmps[22]?.getD undef = (.pointer (some ⟨w.heap.size, 39, none⟩)) := hdep 0 (by decide) 22 rfl
        exact plan_do (by rfl) (plan_yield (i := 1) (V := fun _ _ v => v = (.pointer (some ⟨w.heap.size, 39, none⟩) : Value)) (.pointer (some ⟨w.heap.size, 39, none⟩)) (by go_simp) rfl hK)
      · intro a w' K hs' hdep hfr hK
        have e23 : a.tmps[23]?.getD undef = (.pointer (some ⟨w.heap.size, 39, none⟩)) := hdep 1 (by decide) 23 rfl
        have cl := (HMT.out.keep hs' (fun e => e)).high 0 39 _ rfl rfl
        exact plan_do (by rfl) (plan_yield (i := 2) (V := fun _ _ v => v = (.int .i64 m.cl : Value)) (.int .i64 m.cl) (by go_simp) rfl hK)
      · intro a w' K hs' hdep hfr hK
        have f0 := hfr 0 (by decide)
        exact plan_do (by rfl) (plan_yield (i := 3) (V := fun _ _ v => v = (.pointer (some ⟨B, 0, none⟩) : Value)) (.pointer (some ⟨B, 0, none⟩)) (by go_simp) rfl hK)
      · intro a w' K hs' hdep hfr hK
        have e25 : a.tmps[25]?.getD undef = (.pointer (some ⟨B, 0, none⟩)) := hdep 3 (by decide) 25 rfl
        exact plan_do (by rfl) (plan_yield (i := 4) (V := fun _ _ v => v = (.pointer (some ⟨B, 0, none⟩) : Value)) (.pointer (some ⟨B, 0, none⟩)) (by go_simp) rfl hK)
      · intro a w' K hs' hdep hfr hK
        have e26 : a.tmps[26]?.getD undef = (.pointer (some ⟨B, 0, none⟩)) := hdep 4 (by decide) 26 rfl
        exact plan_do (by rfl) (plan_yield (i := 5) (V := fun _ _ v => v = (.pointer (some ⟨B, 0, none⟩) : Value)) (.pointer (some ⟨B, 0, none⟩)) (by go_simp) rfl hK)
      · intro a w' K hs' hdep hfr hK
        have e27 : a.tmps[27]?.getD undef = (.pointer (some ⟨B, 0, none⟩)) := hdep 5 (by decide) 27 rfl
        exact plan_do (by rfl) (plan_yield (i := 6) (V := fun _ _ v => v = (.pointer (some ⟨B, 0, none⟩) : Value)) (.pointer (some ⟨B, 0, none⟩)) (by go_simp) rfl hK)
      · intro a w' K hs' hdep hfr hK
        have e28 : a.tmps[28]?.getD undef = (.pointer (some ⟨B, 0, none⟩)) := hdep 6 (by decide) 28 rfl
        have cl := (HCL.out.same hs').wh.cell (i := 0) rfl
        exact plan_do (by rfl) (plan_yield (i := 7) (V := fun _ _ v => v = (.int .i64 c.id : Value)) (.int .i64 c.id) (by go_simp) rfl hK)
      · intro a w' K hs' hdep hfr hK
        have e24 : a.tmps[24]?.getD undef = (.int .i64 m.cl) := hdep 2 (by decide) 24 rfl
        have e29 : a.tmps[29]?.getD undef = (.int .i64 c.id) := hdep 7 (by decide) 29 rfl
        have q1 := HQ1.out
        exact plan_do (by rfl) (plan_yield (i := 8) (V := fun _ _ v => v = (.bool false : Value)) (.bool false) (by go_simp) rfl hK)
      · intro a w' K hs' hdep hfr hK
        have e30 : a.tmps[30]?.getD undef = (.bool false) := hdep 8 (by decide) 30 rfl
        exact plan_do (by rfl) (plan_yield (i := 9) (V := fun _ _ v => v = (.bool false : Value)) (.bool false) (by go_simp) rfl hK)
      · intro a w' K hs' hdep hfr hK
        have e31 : a.tmps[31]?.getD undef = (.bool false) := hdep 9 (by decide) 31 rfl
        have f3 := hfr 3 (by decide)
        exact plan_do (wanted_of 9 31 false rfl rfl e31) (plan_yield (i := 10) (V := fun _ _ v => v = (.pointer (some ⟨w.heap.size, 39, none⟩) : Value)) (.pointer (some ⟨w.heap.size, 39, none⟩)) (by go_simp) rfl hK)
      · intro a w' K hs' hdep hfr hK
        have e32 : a.tmps[32]?.getD undef = (.pointer (some ⟨w.heap.size, 39, none⟩)) := hdep 10 (by decide) 32 rfl
        have e31 : a.tmps[31]?.getD undef = (.bool false) := hdep 9 (by decide) 31 rfl
        exact plan_do (wanted_of 9 31 false rfl rfl e31) (plan_yield (i := 11) (V := fun _ _ v => v = (.pointer (some ⟨w.heap.size, 40, none⟩) : Value)) (.pointer (some ⟨w.heap.size, 40, none⟩)) (by go_simp) rfl hK)
      · intro a w' K hs' hdep hfr hK
        have e33 : a.tmps[33]?.getD undef = (.pointer (some ⟨w.heap.size, 40, none⟩)) := hdep 11 (by decide) 33 rfl
        have e31 : a.tmps[31]?.getD undef = (.bool false) := hdep 9 (by decide) 31 rfl
        have cl := (HMT.out.keep hs' (fun e => e)).high 1 40 _ rfl rfl
        exact plan_do (wanted_of 9 31 false rfl rfl e31) (plan_yield (i := 12) (V := fun _ _ v => v = (.int .u64 (m.nr : Int) : Value)) (.int .u64 (m.nr : Int)) (by go_simp) rfl hK)
      · intro a w' K hs' hdep hfr hK
        have e31 : a.tmps[31]?.getD undef = (.bool false) := hdep 9 (by decide) 31 rfl
        have f0 := hfr 0 (by decide)
        exact plan_do (wanted_of 9 31 false rfl rfl e31) (plan_yield (i := 13) (V := fun _ _ v => v = (.pointer (some ⟨B, 0, none⟩) : Value)) (.pointer (some ⟨B, 0, none⟩)) (by go_simp) rfl hK)
      · intro a w' K hs' hdep hfr hK
        have e35 : a.tmps[35]?.getD undef = (.pointer (some ⟨B, 0, none⟩)) := hdep 13 (by decide) 35 rfl
        have e31 : a.tmps[31]?.getD undef = (.bool false) := hdep 9 (by decide) 31 rfl
        exact plan_do (wanted_of 9 31 false rfl rfl e31) (plan_yield (i := 14) (V := fun _ _ v => v = (.pointer (some ⟨B, 0, none⟩) : Value)) (.pointer (some ⟨B, 0, none⟩)) (by go_simp) rfl hK)
      · intro a w' K hs' hdep hfr hK
        have e36 : a.tmps[36]?.getD undef = (.pointer (some ⟨B, 0, none⟩)) := hdep 14 (by decide) 36 rfl
        have e31 : a.tmps[31]?.getD undef = (.bool false) := hdep 9 (by decide) 31 rfl
        exact plan_do (wanted_of 9 31 false rfl rfl e31) (plan_yield (i := 15) (V := fun _ _ v => v = (.pointer (some ⟨B, 0, none⟩) : Value)) (.pointer (some ⟨B, 0, none⟩)) (by go_simp) rfl hK)
      · intro a w' K hs' hdep hfr hK
        have e37 : a.tmps[37]?.getD undef = (.pointer (some ⟨B, 0, none⟩)) := hdep 15 (by decide) 37 rfl
        have e31 : a.tmps[31]?.getD undef = (.bool false) := hdep 9 (by decide) 31 rfl
        exact plan_do (wanted_of 9 31 false rfl rfl e31) (plan_yield (i := 16) (V := fun _ _ v => v = (.pointer (some ⟨B, 1, none⟩) : Value)) (.pointer (some ⟨B, 1, none⟩)) (by go_simp) rfl hK)
      · intro a w' K hs' hdep hfr hK
        have e38 : a.tmps[38]?.getD undef = (.pointer (some ⟨B, 1, none⟩)) := hdep 16 (by decide) 38 rfl
        have e31 : a.tmps[31]?.getD undef = (.bool false) := hdep 9 (by decide) 31 rfl
        have cl := (HCL.out.same hs').wh.cell (i := 1) rfl
        exact plan_do (wanted_of 9 31 false rfl rfl e31) (plan_yield (i := 17) (V := fun _ _ v => v = (.int .u64 (c.nr : Int) : Value)) (.int .u64 (c.nr : Int)) (by go_simp) rfl hK)
      · intro a w' K hs' hdep hfr hK
        have e34 : a.tmps[34]?.getD undef = (.int .u64 (m.nr : Int)) := hdep 12 (by decide) 34 rfl
        have e39 : a.tmps[39]?.getD undef = (.int .u64 (c.nr : Int)) := hdep 17 (by decide) 39 rfl
        have e31 : a.tmps[31]?.getD undef = (.bool false) := hdep 9 (by decide) 31 rfl
        have q2 := HQ2.out
        exact plan_do (wanted_of 9 31 false rfl rfl e31) (plan_yield (i := 18) (V := fun _ _ v => v = (.bool true : Value)) (.bool true) (by go_simp) rfl hK)
      · intro a w' K hs' hdep hfr hK
        have e31 : a.tmps[31]?.getD undef = (.bool false) := hdep 9 (by decide) 31 rfl
        have e40 : a.tmps[40]?.getD undef = (.bool true) := hdep 18 (by decide) 40 rfl
        exact plan_do (by rfl) (plan_yield (i := 19) (V := fun _ _ v => v = (.bool true : Value)) (.bool true) (by go_simp) rfl hK)
    intro a wz hkz hdef hsz hv hfr
    have e41 : a.tmps[41]?.getD undef = (.bool true) := hv 19 41 rfl
    have he := act_eq a _ [some 22, some 23, some 24, some 25, some 26, some 27, some 28, some 29, some 30, some 31, some 32, some 33, some 34, some 35, some 36, some 37, some 38, some 39, some 40, some 41] 49 rfl hsz hdef hfr (fun d => a.tmps[d]?.getD undef) (fun _ _ => rfl)
    obtain ⟨v22, h22⟩ : ∃ v, a.tmps[22]?.getD undef = v := ⟨_, rfl⟩
    obtain ⟨v23, h23⟩ : ∃ v, a.tmps[23]?.getD undef = v := ⟨_, rfl⟩
    obtain ⟨v24, h24⟩ : ∃ v, a.tmps[24]?.getD undef = v := ⟨_, rfl⟩
    obtain ⟨v25, h25⟩ : ∃ v, a.tmps[25]?.getD undef = v := ⟨_, rfl⟩
    obtain ⟨v26, h26⟩ : ∃ v, a.tmps[26]?.getD undef = v := ⟨_, rfl⟩
    obtain ⟨v27, h27⟩ : ∃ v, a.tmps[27]?.getD undef = v := ⟨_, rfl⟩
    obtain ⟨v28, h28⟩ : ∃ v, a.tmps[28]?.getD undef = v := ⟨_, rfl⟩
    obtain ⟨v29, h29⟩ : ∃ v, a.tmps[29]?.getD undef = v := ⟨_, rfl⟩
    obtain ⟨v30, h30⟩ : ∃ v, a.tmps[30]?.getD undef = v := ⟨_, rfl⟩
    obtain ⟨v31, h31⟩ : ∃ v, a.tmps[31]?.getD undef = v := ⟨_, rfl⟩
    obtain ⟨v32, h32⟩ : ∃ v, a.tmps[32]?.getD undef = v := ⟨_, rfl⟩
    obtain ⟨v33, h33⟩ : ∃ v, a.tmps[33]?.getD undef = v := ⟨_, rfl⟩
    obtain ⟨v34, h34⟩ : ∃ v, a.tmps[34]?.getD undef = v := ⟨_, rfl⟩
    obtain ⟨v35, h35⟩ : ∃ v, a.tmps[35]?.getD undef = v := ⟨_, rfl⟩
    obtain ⟨v36, h36⟩ : ∃ v, a.tmps[36]?.getD undef = v := ⟨_, rfl⟩
    obtain ⟨v37, h37⟩ : ∃ v, a.tmps[37]?.getD undef = v := ⟨_, rfl⟩
    obtain ⟨v38, h38⟩ : ∃ v, a.tmps[38]?.getD undef = v := ⟨_, rfl⟩
    obtain ⟨v39, h39⟩ : ∃ v, a.tmps[39]?.getD undef = v := ⟨_, rfl⟩
    obtain ⟨v40, h40⟩ : ∃ v, a.tmps[40]?.getD undef = v := ⟨_, rfl⟩
    simp only [putAll, e41, h22, h23, h24, h25, h26, h27, h28, h29, h30, h31, h32, h33, h34, h35, h36, h37, h38, h39, h40, List.setIfInBounds_toArray, List.set_cons_zero, List.set_cons_succ] at he
    clear e41 h22 h23 h24 h25 h26 h27 h28 h29 h30 h31 h32 h33 h34 h35 h36 h37 h38 h39 h40 hdef hsz hv hfr
    subst he
    have HKZ := Lib.hid hkz
    have HAZ := Lib.hid (HA3.out.keep hkz (fun e => e))
    have HAWZ : Hid (wz.heap[w1.heap.size]? = some (.cells ansL0.toArray 41 (0, 0))) := Lib.hid HAZ.out
    have HKWZ := Lib.hid (HKW.out.trans hkz (fun _ _ e => e))
    clear hkz HEND
    have HEND : Hid (Same w (wz.setRow w1.heap.size ansL0.toArray) ∧ Whole (wz.setRow w1.heap.size ansL0.toArray) w1.heap.size 41 ansL0) := Lib.hid ⟨HKWZ.out.setRow _ _ (.inl (by have := HLT.out; omega)), HAZ.out.row⟩
    go_wp2_with (first
      | (refine wpList_buildTo (by rfl) 41 _ (by rfl) _ (by rfl) ansL0.toArray (by kernel_rfl) ?_)
      | (refine wpList_store_row (by rfl) 41 (.tmp 4) _ (by rfl) w1.heap.size ansL0.toArray (by rfl) (by rfl) 41 ansL0.toArray HAWZ.out (by exact Try.sizeAnsW) rfl (ansL_all _ _ _ _ _ _ _ _) ?_))
    refine bodyPost_ret (v := .tuple #[.agg ansL0.toArray, .bool false]) (results_row_tmp (p := 4) (u := 5) (ty := 41) rfl _ _ w1.heap.size 41 _ (0, 0) _ (by rfl) HEND.out.2 Try.underlying41 rfl (by exact Try.sizeAnsW)) rfl (.inr ⟨HF.out, rfl, HEND.out.1⟩)
  have HQ2 : Hid (((m.nr : Int) != (c.nr : Int)) = false) := Lib.hid (by rw [q2]; simp)
  have HT : Hid (c.Answers m) := Lib.hid ⟨HWT.out, HK2.out, HR.out, HE1.out, q2⟩
  clear q2
  go_wp2
  refine wp_region_do [[], [0], [1], [], [3], [4], [5], [6], [2, 7], [8], [9], [10, 9], [11, 9], [9], [13, 9], [14, 9], [15, 9], [16, 9], [12, 17, 9], [9, 18]]
    [some 22, some 23, some 24, some 25, some 26, some 27, some 28, some 29, some 30, some 31, some 32, some 33, some 34, some 35, some 36, some 37, some 38, some 39, some 40, some 41]
    [.is (.pointer (some ⟨w.heap.size, 39, none⟩)), .is (.pointer (some ⟨w.heap.size, 39, none⟩)), .is (.int .i64 m.cl), .is (.pointer (some ⟨B, 0, none⟩)), .is (.pointer (some ⟨B, 0, none⟩)), .is (.pointer (some ⟨B, 0, none⟩)), .is (.pointer (some ⟨B, 0, none⟩)), .is (.int .i64 c.id), .is (.bool false), .is (.bool false), .is (.pointer (some ⟨w.heap.size, 39, none⟩)), .is (.pointer (some ⟨w.heap.size, 40, none⟩)), .is (.int .u64 (m.nr : Int)), .is (.pointer (some ⟨B, 0, none⟩)), .is (.pointer (some ⟨B, 0, none⟩)), .is (.pointer (some ⟨B, 0, none⟩)), .is (.pointer (some ⟨B, 1, none⟩)), .is (.int .u64 (c.nr : Int)), .is (.bool false), .is (.bool false)]
    3 _ _ 49 20 (by kernel_rfl) (by rfl) (by rfl) (by kernel_rfl) (by kernel_rfl) (by decide) ?_ ?_
  · refine ⟨?_, ?_, ?_, ?_, ?_, ?_, ?_, ?_, ?_, ?_, ?_, ?_, ?_, ?_, ?_, ?_, ?_, ?_, ?_, ?_, trivial⟩
    · intro a w' K hs' hdep hfr hK
      have f3 := hfr 3 (by decide)
      exact plan_do (by rfl) (plan_yield (i := 0) (V := fun _ _ v => v = (.pointer (some ⟨w.heap.size, 39, none⟩) : Value)) (.pointer (some ⟨w.heap.size, 39, none⟩)) (by go_simp) rfl hK)
    · intro a w' K hs' hdep hfr hK
      have e22 : a.tmps[22]?.getD undef = (.pointer (some ⟨w.heap.size, 39, none⟩)) := hdep 0 (by decide) 22 rfl
      exact plan_do (by rfl) (plan_yield (i := 1) (V := fun _ _ v => v = (.pointer (some ⟨w.heap.size, 39, none⟩) : Value)) (.pointer (some ⟨w.heap.size, 39, none⟩)) (by go_simp) rfl hK)
    · intro a w' K hs' hdep hfr hK
      have e23 : a.tmps[23]?.getD undef = (.pointer (some ⟨w.heap.size, 39, none⟩)) := hdep 1 (by decide) 23 rfl
      have cl := (HMT.out.keep hs' (fun e => e)).high 0 39 _ rfl rfl
      exact plan_do (by rfl) (plan_yield (i := 2) (V := fun _ _ v => v = (.int .i64 m.cl : Value)) (.int .i64 m.cl) (by go_simp) rfl hK)
    · intro a w' K hs' hdep hfr hK
      have f0 := hfr 0 (by decide)
      exact plan_do (by rfl) (plan_yield (i := 3) (V := fun _ _ v => v = (.pointer (some ⟨B, 0, none⟩) : Value)) (.pointer (some ⟨B, 0, none⟩)) (by go_simp) rfl hK)
    · intro a w' K hs' hdep hfr hK
      have e25 : a.tmps[25]?.getD undef = (.pointer (some ⟨B, 0, none⟩)) := hdep 3 (by decide) 25 rfl
      exact plan_do (by rfl) (plan_yield (i := 4) (V := fun _ _ v => v = (.pointer (some ⟨B, 0, none⟩) : Value)) (.pointer (some ⟨B, 0, none⟩)) (by go_simp) rfl hK)
    · intro a w' K hs' hdep hfr hK
      have e26 : a.tmps[26]?.getD undef = (.pointer (some ⟨B, 0, none⟩)) := hdep 4 (by decide) 26 rfl
      exact plan_do (by rfl) (plan_yield (i := 5) (V := fun _ _ v => v = (.pointer (some ⟨B, 0, none⟩) : Value)) (.pointer (some ⟨B, 0, none⟩)) (by go_simp) rfl hK)
    · intro a w' K hs' hdep hfr hK
      have e27 : a.tmps[27]?.getD undef = (.pointer (some ⟨B, 0, none⟩)) := hdep 5 (by decide) 27 rfl
      exact plan_do (by rfl) (plan_yield (i := 6) (V := fun _ _ v => v = (.pointer (some ⟨B, 0, none⟩) : Value)) (.pointer (some ⟨B, 0, none⟩)) (by go_simp) rfl hK)
    · intro a w' K hs' hdep hfr hK
      have e28 : a.tmps[28]?.getD undef = (.pointer (some ⟨B, 0, none⟩)) := hdep 6 (by decide) 28 rfl
      have cl := (HCL.out.same hs').wh.cell (i := 0) rfl
      exact plan_do (by rfl) (plan_yield (i := 7) (V := fun _ _ v => v = (.int .i64 c.id : Value)) (.int .i64 c.id) (by go_simp) rfl hK)
    · intro a w' K hs' hdep hfr hK
      have e24 : a.tmps[24]?.getD undef = (.int .i64 m.cl) := hdep 2 (by decide) 24 rfl
      have e29 : a.tmps[29]?.getD undef = (.int .i64 c.id) := hdep 7 (by decide) 29 rfl
      have q1 := HQ1.out
      exact plan_do (by rfl) (plan_yield (i := 8) (V := fun _ _ v => v = (.bool false : Value)) (.bool false) (by go_simp) rfl hK)
    · intro a w' K hs' hdep hfr hK
      have e30 : a.tmps[30]?.getD undef = (.bool false) := hdep 8 (by decide) 30 rfl
      exact plan_do (by rfl) (plan_yield (i := 9) (V := fun _ _ v => v = (.bool false : Value)) (.bool false) (by go_simp) rfl hK)
    · intro a w' K hs' hdep hfr hK
      have e31 : a.tmps[31]?.getD undef = (.bool false) := hdep 9 (by decide) 31 rfl
      have f3 := hfr 3 (by decide)
      exact plan_do (wanted_of 9 31 false rfl rfl e31) (plan_yield (i := 10) (V := fun _ _ v => v = (.pointer (some ⟨w.heap.size, 39, none⟩) : Value)) (.pointer (some ⟨w.heap.size, 39, none⟩)) (by go_simp) rfl hK)
    · intro a w' K hs' hdep hfr hK
      have e32 : a.tmps[32]?.getD undef = (.pointer (some ⟨w.heap.size, 39, none⟩)) := hdep 10 (by decide) 32 rfl
      have e31 : a.tmps[31]?.getD undef = (.bool false) := hdep 9 (by decide) 31 rfl
      exact plan_do (wanted_of 9 31 false rfl rfl e31) (plan_yield (i := 11) (V := fun _ _ v => v = (.pointer (some ⟨w.heap.size, 40, none⟩) : Value)) (.pointer (some ⟨w.heap.size, 40, none⟩)) (by go_simp) rfl hK)
    · intro a w' K hs' hdep hfr hK
      have e33 : a.tmps[33]?.getD undef = (.pointer (some ⟨w.heap.size, 40, none⟩)) := hdep 11 (by decide) 33 rfl
      have e31 : a.tmps[31]?.getD undef = (.bool false) := hdep 9 (by decide) 31 rfl
      have cl := (HMT.out.keep hs' (fun e => e)).high 1 40 _ rfl rfl
      exact plan_do (wanted_of 9 31 false rfl rfl e31) (plan_yield (i := 12) (V := fun _ _ v => v = (.int .u64 (m.nr : Int) : Value)) (.int .u64 (m.nr : Int)) (by go_simp) rfl hK)
    · intro a w' K hs' hdep hfr hK
      have e31 : a.tmps[31]?.getD undef = (.bool false) := hdep 9 (by decide) 31 rfl
      have f0 := hfr 0 (by decide)
      exact plan_do (wanted_of 9 31 false rfl rfl e31) (plan_yield (i := 13) (V := fun _ _ v => v = (.pointer (some ⟨B, 0, none⟩) : Value)) (.pointer (some ⟨B, 0, none⟩)) (by go_simp) rfl hK)
    · intro a w' K hs' hdep hfr hK
      have e35 : a.tmps[35]?.getD undef = (.pointer (some ⟨B, 0, none⟩)) := hdep 13 (by decide) 35 rfl
      have e31 : a.tmps[31]?.getD undef = (.bool false) := hdep 9 (by decide) 31 rfl
      exact plan_do (wanted_of 9 31 false rfl rfl e31) (plan_yield (i := 14) (V := fun _ _ v => v = (.pointer (some ⟨B, 0, none⟩) : Value)) (.pointer (some ⟨B, 0, none⟩)) (by go_simp) rfl hK)
    · intro a w' K hs' hdep hfr hK
      have e36 : a.tmps[36]?.getD undef = (.pointer (some ⟨B, 0, none⟩)) := hdep 14 (by decide) 36 rfl
      have e31 : a.tmps[31]?.getD undef = (.bool false) := hdep 9 (by decide) 31 rfl
      exact plan_do (wanted_of 9 31 false rfl rfl e31) (plan_yield (i := 15) (V := fun _ _ v => v = (.pointer (some ⟨B, 0, none⟩) : Value)) (.pointer (some ⟨B, 0, none⟩)) (by go_simp) rfl hK)
    · intro a w' K hs' hdep hfr hK
      have e37 : a.tmps[37]?.getD undef = (.pointer (some ⟨B, 0, none⟩)) := hdep 15 (by decide) 37 rfl
      have e31 : a.tmps[31]?.getD undef = (.bool false) := hdep 9 (by decide) 31 rfl
      exact plan_do (wanted_of 9 31 false rfl rfl e31) (plan_yield (i := 16) (V := fun _ _ v => v = (.pointer (some ⟨B, 1, none⟩) : Value)) (.pointer (some ⟨B, 1, none⟩)) (by go_simp) rfl hK)
    · intro a w' K hs' hdep hfr hK
      have e38 : a.tmps[38]?.getD undef = (.pointer (some ⟨B, 1, none⟩)) := hdep 16 (by decide) 38 rfl
      have e31 : a.tmps[31]?.getD undef = (.bool false) := hdep 9 (by decide) 31 rfl
      have cl := (HCL.out.same hs').wh.cell (i := 1) rfl
      exact plan_do (wanted_of 9 31 false rfl rfl e31) (plan_yield (i := 17) (V := fun _ _ v => v = (.int .u64 (c.nr : Int) : Value)) (.int .u64 (c.nr : Int)) (by go_simp) rfl hK)
    · intro a w' K hs' hdep hfr hK
      have e34 : a.tmps[34]?.getD undef = (.int .u64 (m.nr : Int)) := hdep 12 (by decide) 34 rfl
      have e39 : a.tmps[39]?.getD undef = (.int .u64 (c.nr : Int)) := hdep 17 (by decide) 39 rfl
      have e31 : a.tmps[31]?.getD undef = (.bool false) := hdep 9 (by decide) 31 rfl
      have q2 := HQ2.out
      exact plan_do (wanted_of 9 31 false rfl rfl e31) (plan_yield (i := 18) (V := fun _ _ v => v = (.bool false : Value)) (.bool false) (by go_simp) rfl hK)
    · intro a w' K hs' hdep hfr hK
      have e31 : a.tmps[31]?.getD undef = (.bool false) := hdep 9 (by decide) 31 rfl
      have e40 : a.tmps[40]?.getD undef = (.bool false) := hdep 18 (by decide) 40 rfl
      exact plan_do (by rfl) (plan_yield (i := 19) (V := fun _ _ v => v = (.bool false : Value)) (.bool false) (by go_simp) rfl hK)
  intro a wz hkz hdef hsz hv hfr
  have e41 : a.tmps[41]?.getD undef = (.bool false) := hv 19 41 rfl
  have he := act_eq a _ [some 22, some 23, some 24, some 25, some 26, some 27, some 28, some 29, some 30, some 31, some 32, some 33, some 34, some 35, some 36, some 37, some 38, some 39, some 40, some 41] 49 rfl hsz hdef hfr (fun d => a.tmps[d]?.getD undef) (fun _ _ => rfl)
  obtain ⟨v22, h22⟩ : ∃ v, a.tmps[22]?.getD undef = v := ⟨_, rfl⟩
  obtain ⟨v23, h23⟩ : ∃ v, a.tmps[23]?.getD undef = v := ⟨_, rfl⟩
  obtain ⟨v24, h24⟩ : ∃ v, a.tmps[24]?.getD undef = v := ⟨_, rfl⟩
  obtain ⟨v25, h25⟩ : ∃ v, a.tmps[25]?.getD undef = v := ⟨_, rfl⟩
  obtain ⟨v26, h26⟩ : ∃ v, a.tmps[26]?.getD undef = v := ⟨_, rfl⟩
  obtain ⟨v27, h27⟩ : ∃ v, a.tmps[27]?.getD undef = v := ⟨_, rfl⟩
  obtain ⟨v28, h28⟩ : ∃ v, a.tmps[28]?.getD undef = v := ⟨_, rfl⟩
  obtain ⟨v29, h29⟩ : ∃ v, a.tmps[29]?.getD undef = v := ⟨_, rfl⟩
  obtain ⟨v30, h30⟩ : ∃ v, a.tmps[30]?.getD undef = v := ⟨_, rfl⟩
  obtain ⟨v31, h31⟩ : ∃ v, a.tmps[31]?.getD undef = v := ⟨_, rfl⟩
  obtain ⟨v32, h32⟩ : ∃ v, a.tmps[32]?.getD undef = v := ⟨_, rfl⟩
  obtain ⟨v33, h33⟩ : ∃ v, a.tmps[33]?.getD undef = v := ⟨_, rfl⟩
  obtain ⟨v34, h34⟩ : ∃ v, a.tmps[34]?.getD undef = v := ⟨_, rfl⟩
  obtain ⟨v35, h35⟩ : ∃ v, a.tmps[35]?.getD undef = v := ⟨_, rfl⟩
  obtain ⟨v36, h36⟩ : ∃ v, a.tmps[36]?.getD undef = v := ⟨_, rfl⟩
  obtain ⟨v37, h37⟩ : ∃ v, a.tmps[37]?.getD undef = v := ⟨_, rfl⟩
  obtain ⟨v38, h38⟩ : ∃ v, a.tmps[38]?.getD undef = v := ⟨_, rfl⟩
  obtain ⟨v39, h39⟩ : ∃ v, a.tmps[39]?.getD undef = v := ⟨_, rfl⟩
  obtain ⟨v40, h40⟩ : ∃ v, a.tmps[40]?.getD undef = v := ⟨_, rfl⟩
  simp only [putAll, e41, h22, h23, h24, h25, h26, h27, h28, h29, h30, h31, h32, h33, h34, h35, h36, h37, h38, h39, h40, List.setIfInBounds_toArray, List.set_cons_zero, List.set_cons_succ] at he
  clear e41 h22 h23 h24 h25 h26 h27 h28 h29 h30 h31 h32 h33 h34 h35 h36 h37 h38 h39 h40 hdef hsz hv hfr
  subst he
  have HCZ := Lib.hid (HCL.out.same hkz)
  have HAZ := Lib.hid (HA3.out.keep hkz (fun e => e))
  have HMZ := Lib.hid (HMT.out.keep hkz (fun e => e))
  have HKWZ := Lib.hid (HKW.out.trans hkz (fun _ _ e => e))
  have HSZZ : Hid (w2.heap.size ≤ wz.heap.size) := Lib.hid (by have := HSZ3.out; have := hkz.size; omega)
  have b8 : wz.cell? ⟨B, 8, none⟩ = some (.bool c.wt) := HCZ.out.wh.cell (i := 8) rfl
  have z8 := HCZ.out.wh.free 8
  obtain ⟨w4, hw4⟩ : ∃ w4, wz.setCell ⟨B, 8, none⟩ (.bool false) = w4 := ⟨_, rfl⟩
  have HKB : Hid (Keeps (fun q => q = B) wz w4) := Lib.hid (by rw [← hw4]; exact (Keeps.refl _ _).setCell _ _ (.inr rfl))
  have HC4 : Hid (ClAt w4 B c.rests) := Lib.hid ⟨by rw [← hw4]; exact HCZ.out.wh.set 8 _, HCZ.out.rd.far HCZ.out.far HKB.out (fun j e => by omega), HCZ.out.far, HCZ.out.nr, HCZ.out.len⟩
  have HA4 : Hid (Whole w4 w1.heap.size 41 ansL0) := Lib.hid (HAZ.out.keep HKB.out (by have := HLT.out; omega))
  have HM4 : Hid (MsgAt w4 w.heap.size m) := Lib.hid (HMZ.out.keep HKB.out (by have := HLT.out; omega))
  have HRD : Hid (Reads w4 (.slice m.ao m.ad.length m.acap) m.ad ∧ Strs w4 (.slice m.no m.ns.length m.ncap) m.ns) := Lib.hid (by
    have hz : MsgIn wz m := HM.out.same HKWZ.out
    refine ⟨?_, ?_⟩
    · obtain ⟨ao, c', e, h1, h2, h3⟩ := hz.ra
      refine ⟨ao, c', e, ?_, h2, h3⟩
      by_cases h0 : m.ad = []
      · rw [h0]; exact Bytes.nil _ _ _
      · exact h1.keeps HKB.out (fun a n' c'' e2 hS => by
          simp only [Value.slice.injEq] at e2
          exact HOFF.out.1 a e2.1 h0 hS)
    · by_cases h0 : m.ns = []
      · rw [h0]; exact Strs.nil _ _ _
      · exact hz.ns.keeps HKB.out (fun a n' c'' e2 hS => by
          simp only [Value.slice.injEq] at e2
          exact HOFF.out.2 a e2.1 h0 hS))
  have HTA := Lib.hid (twinAns_any m.ac m.an (.slice m.ao m.ad.length m.acap) m.no m.ns.length m.ncap m.ad m.ns w4 HRD.out.1 HRD.out.2 rfl (by have := right_ans HR.out HK2.out; have := this.2.2.1; omega) (by have := right_ans HR.out HK2.out; have := this.2.2.2.1; omega))
  have HTA2 : Hid (Calls Try.prog 27 #[.agg m.ans.toArray] w4 fun e w' => Same w4 w' ∧ ∃ y bo bc, e = .returned (.agg (ansL m.ac m.an y (.slice bo m.ns.length bc)).toArray) ∧ Reads w' y m.ad ∧ Strs w' (.slice bo m.ns.length bc) m.ns ∧ FarFrom w4.heap.size y m.ad ∧ ∀ a, bo = some a → w4.heap.size ≤ a.block) := Lib.hid HTA.out
  clear hkz HEND HTA
  go_wp2_with (refine wpList_load_mid (by rfl) 41 _ (by rfl) w.heap.size 47 (by rfl) m.ans _ HM4.out.ansR Try.underlying41 rfl (by exact Try.sizeAnsW) ?_)
  ((with_reducible refine (HTA2.out).mono ?_); rintro e w5 ⟨hk5, y, bo, bc, rfl, hy, hs, hf, hb⟩)
  obtain ⟨yo, yc, rfl, _⟩ := id hy
  have HA5 := Lib.hid (HA4.out.keep hk5 (fun e => e))
  have HAW5 : Hid (w5.heap[w1.heap.size]? = some (.cells ansL0.toArray 41 (0, 0))) := Lib.hid HA5.out
  have HKB5 : Hid (Keeps (fun q => q = B) wz w5) := Lib.hid (HKB.out.trans hk5 (fun _ _ e => e.elim))
  have HC5 := Lib.hid (HC4.out.same hk5)
  obtain ⟨w6, hw6⟩ : ∃ w6, w5.setRow w1.heap.size (ansL m.ac m.an (.slice yo m.ad.length yc) (.slice bo m.ns.length bc)).toArray = w6 := ⟨_, rfl⟩
  have HKA : Hid (Keeps (fun q => q = w1.heap.size) w5 w6) := Lib.hid (by rw [← hw6]; exact (Keeps.refl _ _).setRow _ _ (.inr rfl))
  have HSZ4 : Hid (w2.heap.size ≤ w4.heap.size) := Lib.hid (by have := HSZZ.out; have := HKB.out.size; omega)
  have HEND : Hid (Whole w6 w1.heap.size 41 (ansL m.ac m.an (.slice yo m.ad.length yc) (.slice bo m.ns.length bc)) ∧ Reads w6 (.slice yo m.ad.length yc) m.ad ∧ Strs w6 (.slice bo m.ns.length bc) m.ns ∧ Keeps (fun q => q = B) w w6 ∧ ClAt w6 B c.rests) := Lib.hid (by
    refine ⟨by rw [← hw6]; exact HA5.out.row, hy.far hf HKA.out (fun j e => by have := HSZ4.out; have := HLT.out; omega), hs.keeps HKA.out (fun a n' c' e h => ?_), ?_, ?_, ?_, HC5.out.far, HC5.out.nr, HC5.out.len⟩
    · simp only [Value.slice.injEq] at e
      have h1 := hb a e.1
      have := HSZ4.out
      have := HLT.out
      omega
    · rw [← hw6]
      exact (Keeps.trans (S := fun q => q = B) (Same.any HKWZ.out) HKB5.out (fun _ _ e => e)).setRow _ _ (.inl (by have := HLT.out; omega))
    · exact HC5.out.wh.keep HKA.out (by have := HLT.out; omega)
    · have h5 : Reads w5 (.slice c.xo c.ds.length c.xc) c.ds := HC5.out.rd
      obtain ⟨ao, c', e, h1, h2, h3⟩ := h5
      have h6 : Reads w6 (.slice c.xo c.ds.length c.xc) c.ds := by
        refine ⟨ao, c', e, ?_, h2, h3⟩
        by_cases h0 : c.ds = []
        · rw [h0]; exact Bytes.nil _ _ _
        · refine h1.keeps HKA.out (fun a n' c'' e2 hS => ?_)
          obtain ⟨_, _, _, h7, _⟩ := HC.out.rd
          rw [e2] at h7
          have h8 : n' = c.ds.length := by simp only [Value.slice.injEq] at e2; exact e2.2.1.symm
          have := h7.lt h0
          have h9 := HLT.out
          omega
      exact h6)
  clear hy hs hf hb hk5 hw4
  go_wp2_with (refine wpList_store_row (by rfl) 41 (.tmp 4) _ (by rfl) w1.heap.size (ansL m.ac m.an (.slice yo m.ad.length yc) (.slice bo m.ns.length bc)).toArray (by rfl) (by rfl) 41 ansL0.toArray HAW5.out (by exact Try.sizeAnsW) rfl (ansL_all _ _ _ _ _ _ _ _) ?_)
  refine bodyPost_ret (v := .tuple #[.agg (ansL m.ac m.an (.slice yo m.ad.length yc) (.slice bo m.ns.length bc)).toArray, .bool true]) (results_row_tmp (p := 4) (u := 5) (ty := 41) rfl _ _ w1.heap.size 41 _ (0, 0) _ (by rfl) HEND.out.1 Try.underlying41 rfl (by exact Try.sizeAnsW)) rfl (.inl ⟨HT.out, _, bo, bc, rfl, HEND.out.2.1, HEND.out.2.2.1, HEND.out.2.2.2.1, HEND.out.2.2.2.2⟩)
end Go.Proofs.Ytlglkkoippoafaa
