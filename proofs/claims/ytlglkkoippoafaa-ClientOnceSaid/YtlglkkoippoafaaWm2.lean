/- Whether a message is right: wire.rightCall, rightAnswer. -/
import Derived.Test.YtlglkkoippoafaaWm1
namespace Go.Proofs.Ytlglkkoippoafaa
open Go.RowKit
set_option linter.unusedVariables false

def call0 : List Value := [.int .i64 0, .int .u64 0, .int .i64 0, .string ⟨#[]⟩, .string ⟨#[]⟩, .int .i64 0, .int .i64 0, .slice none 0 0]
theorem Try.zeroCallW (w : World) : (zeroValue 38).run Try.prog w = .ok (.agg call0.toArray) w := by kernel_rfl
/-- A bool that tells whether. -/
def BoolPost (w : World) (p : Prop) (e : Ending) (w' : World) : Prop := ∃ b, e = .returned (.bool b) ∧ (b = true ↔ p) ∧ Same w w'
theorem Msg.call_all (m : Msg) : m.call.toArray.all (·.oneCell') = true := by simp [Msg.call, Value.oneCell']

set_option maxRecDepth 100000 in
set_option maxHeartbeats 6400000 in
theorem rightCall_any (m : Msg) (w : World) (h : MsgIn w m) : Calls Try.prog 36 #[.agg m.cells.toArray] w (BoolPost w m.CallOk) := by
  have HO := Lib.hid h.od
  obtain ⟨w1, hw1⟩ : ∃ w1, w.alloc (.cells m.cells.toArray 45) = w1 := ⟨_, rfl⟩
  have HB : Hid (MsgAt w1 w.heap.size m) := Lib.hid (by rw [← hw1]; exact MsgAt.new w m h.hd)
  have HK : Hid (Same w w1) := Lib.hid (by rw [← hw1]; exact (Keeps.refl _ _).alloc _)
  have HLT : Hid (w.heap.size < w1.heap.size) := Lib.hid (by rw [← hw1]; simp)
  have hzc := Try.zeroCallW
  have HC : Hid (m.CallOk ↔ if m.k = 1 then (0 ≤ m.cl ∧ m.cl ≤ 3) ∧ m.nr ≠ 0 ∧ OpRight m.ok m.off m.on m.p m.q m.od.length
    else if m.k = 2 then (0 ≤ m.cl ∧ m.cl ≤ 3) ∧ m.nr ≠ 0 ∧ OpBlank m.ok m.off m.on m.p m.q m.od.length
    else m.cl = 0 ∧ m.nr = 0 ∧ OpBlank m.ok m.off m.on m.p m.q m.od.length) := Lib.hid (by unfold Msg.CallOk; exact Iff.rfl)
  clear h
  go_enter Try.func36, Try.ntmps36
  obtain ⟨w2, hw2⟩ : ∃ w2, (w1.alloc (.cells call0.toArray 38)).setRow w1.heap.size m.call.toArray = w2 := ⟨_, rfl⟩
  have HX : Hid (Whole w2 w1.heap.size 38 m.call) := Lib.hid (by rw [← hw2]; exact Whole.row (cs := call0) (heap_alloc_new w1 _))
  have hk12 : Same w1 w2 := by rw [← hw2]; exact ((Keeps.refl (fun _ => False) _).alloc _).setRow _ _ (.inl (Nat.le_refl _))
  have HK2 : Hid (Same w w2) := Lib.hid (HK.out.trans hk12 (fun _ _ e => e))
  have HB2 := Lib.hid (HB.out.keep hk12 (fun e => e))
  have c0 : w2.cell? ⟨w.heap.size, 0, none⟩ = some (.int .i64 m.k) := HB2.out.low 0 _ (by omega) rfl
  have d0 : w2.cell? ⟨w1.heap.size, 0, none⟩ = some (.int .i64 m.cl) := HX.out.cell (i := 0) rfl
  have d1 : w2.cell? ⟨w1.heap.size, 1, none⟩ = some (.int .u64 m.nr) := HX.out.cell (i := 1) rfl
  have HOR : Hid (w2.rangeAt w1.heap.size 2 m.op) := Lib.hid (fun j v hj => HX.out.cell (by
    rw [show m.call = [.int .i64 m.cl, .int .u64 m.nr] ++ m.op from rfl, List.getElem?_append_right (by simp)]
    simpa using hj))
  obtain ⟨b1, hb1⟩ : ∃ b, decide (m.cl = 0 ∧ m.nr = 0 ∧ OpBlank m.ok m.off m.on m.p m.q m.od.length) = b := ⟨_, rfl⟩
  obtain ⟨b2, hb2⟩ : ∃ b, decide (OpBlank m.ok m.off m.on m.p m.q m.od.length) = b := ⟨_, rfl⟩
  have HB1 : Hid (b1 = true ↔ (m.cl = 0 ∧ m.nr = 0 ∧ OpBlank m.ok m.off m.on m.p m.q m.od.length)) := Lib.hid (by rw [← hb1, decide_eq_true_eq])
  have HB2B : Hid (b2 = true ↔ OpBlank m.ok m.off m.on m.p m.q m.od.length) := Lib.hid (by rw [← hb2, decide_eq_true_eq])
  have HBC : Hid (∀ w, Calls Try.prog 42 #[.agg m.call.toArray] w fun e w' => e = .returned (.bool b1) ∧ Same w w') := Lib.hid (fun w => hb1 ▸ blankCall_any m.cl m.nr m.ok m.off m.on m.p m.q m.oo m.od.length m.oc w)
  have HBO : Hid (∀ w, Calls Try.prog 43 #[.agg m.op.toArray] w fun e w' => e = .returned (.bool b2) ∧ Same w w') := Lib.hid (fun w => hb2 ▸ blankOp_any m.ok m.off m.on m.p m.q m.oo m.od.length m.oc w)
  have HWN : Hid (¬ OpRight m.ok m.off m.on m.p m.q m.od.length → ∀ w, Calls Try.prog 20 #[.agg m.op.toArray] w fun e w' => e = .returned (.tuple #[.slice none 0 0, .int .i64 1]) ∧ Same w w') := Lib.hid (fun h w => write_no m.ok m.off m.on m.p m.q m.oo m.od.length m.oc w h)
  have HWY : Hid (OpRight m.ok m.off m.on m.p m.q m.od.length → ∀ w, Bytes w (.slice m.oo m.od.length m.oc) m.od → Calls Try.prog 20 #[.agg m.op.toArray] w fun e w' => ∃ v, e = .returned (.tuple #[v, .int .i64 0]) ∧ w'.ownsRow w.heap.size 5 1 v (opBytes m.ok m.off m.on m.p m.q m.od).length (u8s (opBytes m.ok m.off m.on m.p m.q m.od)) ∧ Same w w') := Lib.hid (fun h w hb => write_yes m.ok m.off m.on m.p m.q m.oo m.oc m.od w h hb)
  have HO2 : Hid (Bytes w2 (.slice m.oo m.od.length m.oc) m.od) := Lib.hid (HO.out.same HK2.out)
  clear hb1 hb2
  by_cases k1 : m.k = 1
  case neg =>
    by_cases k2 : m.k = 2
    case neg =>
      have HF : Hid (m.CallOk ↔ (m.cl = 0 ∧ m.nr = 0 ∧ OpBlank m.ok m.off m.on m.p m.q m.od.length)) := Lib.hid (by rw [HC.out, if_neg k1, if_neg k2])
      have e1 : (m.k != 1) = true := by simpa using k1
      have e2 : (m.k != 2) = true := by simpa using k2
      clear k1 k2
      go_wp2_with (first
              | (refine wpList_load_mid (by rfl) 38 _ (by rfl) w.heap.size 39 (by rfl) m.call _ HB.out.callR Try.underlying38 rfl (by exact Try.sizeCallW) ?_)
              | (refine wpList_store_row (by rfl) 38 _ _ (by rfl) w1.heap.size m.call.toArray (by rfl) (by rfl) 38 call0.toArray (heap_alloc_new w1 _) (by exact Try.sizeCallW) rfl m.call_all ?_)
              | (refine wpList_load_row (by rfl) 38 _ (by rfl) w1.heap.size (by rfl) 38 m.call.toArray (0, 0) _ HX.out Try.underlying38 rfl (by exact Try.sizeCallW) ?_)
              | (refine wpList_load_mid (by rfl) 32 _ (by rfl) w1.heap.size 2 (by rfl) m.op _ HOR.out Try.underlying32 rfl (by exact Try.sizeOpW) ?_))
      ((with_reducible refine (HBC.out _).mono ?_); rintro e w3 ⟨rfl, hk3⟩)
      have HK3 := Lib.hid (HK2.out.trans hk3 (fun _ _ e => e))
      clear hk3
      go_wp2
      go_ret
      exact ⟨_, rfl, HB1.out.trans HF.out.symm, HK3.out⟩
    have HF : Hid (m.CallOk ↔ ((0 ≤ m.cl ∧ m.cl ≤ 3) ∧ m.nr ≠ 0 ∧ OpBlank m.ok m.off m.on m.p m.q m.od.length)) := Lib.hid (by rw [HC.out, if_neg k1, if_pos k2])
    have e1 : (m.k != 1) = true := by simpa using k1
    have e2 : (m.k != 2) = false := by simpa using k2
    have e3 : (m.k == 2) = true := by simpa using k2
    clear k1 k2
    by_cases q1 : m.cl < 0
    · have HF : Hid (¬ m.CallOk) := Lib.hid (fun h => by have := (HF.out.1 h).1.1; omega)
      go_wp2_with (first
              | (refine wpList_load_mid (by rfl) 38 _ (by rfl) w.heap.size 39 (by rfl) m.call _ HB.out.callR Try.underlying38 rfl (by exact Try.sizeCallW) ?_)
              | (refine wpList_store_row (by rfl) 38 _ _ (by rfl) w1.heap.size m.call.toArray (by rfl) (by rfl) 38 call0.toArray (heap_alloc_new w1 _) (by exact Try.sizeCallW) rfl m.call_all ?_)
              | (refine wpList_load_row (by rfl) 38 _ (by rfl) w1.heap.size (by rfl) 38 m.call.toArray (0, 0) _ HX.out Try.underlying38 rfl (by exact Try.sizeCallW) ?_)
              | (refine wpList_load_mid (by rfl) 32 _ (by rfl) w1.heap.size 2 (by rfl) m.op _ HOR.out Try.underlying32 rfl (by exact Try.sizeOpW) ?_))
      go_ret
      exact ⟨_, rfl, by simpa using HF.out, HK2.out⟩
    by_cases q2 : (4 : Int) ≤ m.cl
    · have HF : Hid (¬ m.CallOk) := Lib.hid (fun h => by have := (HF.out.1 h).1.2; omega)
      go_wp2_with (first
              | (refine wpList_load_mid (by rfl) 38 _ (by rfl) w.heap.size 39 (by rfl) m.call _ HB.out.callR Try.underlying38 rfl (by exact Try.sizeCallW) ?_)
              | (refine wpList_store_row (by rfl) 38 _ _ (by rfl) w1.heap.size m.call.toArray (by rfl) (by rfl) 38 call0.toArray (heap_alloc_new w1 _) (by exact Try.sizeCallW) rfl m.call_all ?_)
              | (refine wpList_load_row (by rfl) 38 _ (by rfl) w1.heap.size (by rfl) 38 m.call.toArray (0, 0) _ HX.out Try.underlying38 rfl (by exact Try.sizeCallW) ?_)
              | (refine wpList_load_mid (by rfl) 32 _ (by rfl) w1.heap.size 2 (by rfl) m.op _ HOR.out Try.underlying32 rfl (by exact Try.sizeOpW) ?_))
      go_ret
      exact ⟨_, rfl, by simpa using HF.out, HK2.out⟩
    by_cases q3 : m.nr = 0
    · have e4 : ((m.nr : Int) == 0) = true := by simp; omega
      have HF : Hid (¬ m.CallOk) := Lib.hid (fun h => (HF.out.1 h).2.1 q3)
      go_wp2_with (first
              | (refine wpList_load_mid (by rfl) 38 _ (by rfl) w.heap.size 39 (by rfl) m.call _ HB.out.callR Try.underlying38 rfl (by exact Try.sizeCallW) ?_)
              | (refine wpList_store_row (by rfl) 38 _ _ (by rfl) w1.heap.size m.call.toArray (by rfl) (by rfl) 38 call0.toArray (heap_alloc_new w1 _) (by exact Try.sizeCallW) rfl m.call_all ?_)
              | (refine wpList_load_row (by rfl) 38 _ (by rfl) w1.heap.size (by rfl) 38 m.call.toArray (0, 0) _ HX.out Try.underlying38 rfl (by exact Try.sizeCallW) ?_)
              | (refine wpList_load_mid (by rfl) 32 _ (by rfl) w1.heap.size 2 (by rfl) m.op _ HOR.out Try.underlying32 rfl (by exact Try.sizeOpW) ?_))
      go_ret
      exact ⟨_, rfl, by simpa using HF.out, HK2.out⟩
    have e4 : ((m.nr : Int) == 0) = false := by simp; omega
    go_wp2_with (first
            | (refine wpList_load_mid (by rfl) 38 _ (by rfl) w.heap.size 39 (by rfl) m.call _ HB.out.callR Try.underlying38 rfl (by exact Try.sizeCallW) ?_)
            | (refine wpList_store_row (by rfl) 38 _ _ (by rfl) w1.heap.size m.call.toArray (by rfl) (by rfl) 38 call0.toArray (heap_alloc_new w1 _) (by exact Try.sizeCallW) rfl m.call_all ?_)
            | (refine wpList_load_row (by rfl) 38 _ (by rfl) w1.heap.size (by rfl) 38 m.call.toArray (0, 0) _ HX.out Try.underlying38 rfl (by exact Try.sizeCallW) ?_)
            | (refine wpList_load_mid (by rfl) 32 _ (by rfl) w1.heap.size 2 (by rfl) m.op _ HOR.out Try.underlying32 rfl (by exact Try.sizeOpW) ?_))
    ((with_reducible refine (HBO.out _).mono ?_); rintro e w3 ⟨rfl, hk3⟩)
    have HK3 := Lib.hid (HK2.out.trans hk3 (fun _ _ e => e))
    clear hk3
    go_wp2
    go_ret
    exact ⟨_, rfl, HB2B.out.trans ⟨fun h => HF.out.2 ⟨⟨by omega, by omega⟩, q3, h⟩, fun h => (HF.out.1 h).2.2⟩, HK3.out⟩
  have HF : Hid (m.CallOk ↔ ((0 ≤ m.cl ∧ m.cl ≤ 3) ∧ m.nr ≠ 0 ∧ OpRight m.ok m.off m.on m.p m.q m.od.length)) := Lib.hid (by rw [HC.out, if_pos k1])
  have e1 : (m.k != 1) = false := by simpa using k1
  have e3 : (m.k == 2) = false := by rw [k1]; rfl
  clear k1
  by_cases q1 : m.cl < 0
  · have HF : Hid (¬ m.CallOk) := Lib.hid (fun h => by have := (HF.out.1 h).1.1; omega)
    go_wp2_with (first
            | (refine wpList_load_mid (by rfl) 38 _ (by rfl) w.heap.size 39 (by rfl) m.call _ HB.out.callR Try.underlying38 rfl (by exact Try.sizeCallW) ?_)
            | (refine wpList_store_row (by rfl) 38 _ _ (by rfl) w1.heap.size m.call.toArray (by rfl) (by rfl) 38 call0.toArray (heap_alloc_new w1 _) (by exact Try.sizeCallW) rfl m.call_all ?_)
            | (refine wpList_load_row (by rfl) 38 _ (by rfl) w1.heap.size (by rfl) 38 m.call.toArray (0, 0) _ HX.out Try.underlying38 rfl (by exact Try.sizeCallW) ?_)
            | (refine wpList_load_mid (by rfl) 32 _ (by rfl) w1.heap.size 2 (by rfl) m.op _ HOR.out Try.underlying32 rfl (by exact Try.sizeOpW) ?_))
    go_ret
    exact ⟨_, rfl, by simpa using HF.out, HK2.out⟩
  by_cases q2 : (4 : Int) ≤ m.cl
  · have HF : Hid (¬ m.CallOk) := Lib.hid (fun h => by have := (HF.out.1 h).1.2; omega)
    go_wp2_with (first
            | (refine wpList_load_mid (by rfl) 38 _ (by rfl) w.heap.size 39 (by rfl) m.call _ HB.out.callR Try.underlying38 rfl (by exact Try.sizeCallW) ?_)
            | (refine wpList_store_row (by rfl) 38 _ _ (by rfl) w1.heap.size m.call.toArray (by rfl) (by rfl) 38 call0.toArray (heap_alloc_new w1 _) (by exact Try.sizeCallW) rfl m.call_all ?_)
            | (refine wpList_load_row (by rfl) 38 _ (by rfl) w1.heap.size (by rfl) 38 m.call.toArray (0, 0) _ HX.out Try.underlying38 rfl (by exact Try.sizeCallW) ?_)
            | (refine wpList_load_mid (by rfl) 32 _ (by rfl) w1.heap.size 2 (by rfl) m.op _ HOR.out Try.underlying32 rfl (by exact Try.sizeOpW) ?_))
    go_ret
    exact ⟨_, rfl, by simpa using HF.out, HK2.out⟩
  by_cases q3 : m.nr = 0
  · have e4 : ((m.nr : Int) == 0) = true := by simp; omega
    have HF : Hid (¬ m.CallOk) := Lib.hid (fun h => (HF.out.1 h).2.1 q3)
    go_wp2_with (first
            | (refine wpList_load_mid (by rfl) 38 _ (by rfl) w.heap.size 39 (by rfl) m.call _ HB.out.callR Try.underlying38 rfl (by exact Try.sizeCallW) ?_)
            | (refine wpList_store_row (by rfl) 38 _ _ (by rfl) w1.heap.size m.call.toArray (by rfl) (by rfl) 38 call0.toArray (heap_alloc_new w1 _) (by exact Try.sizeCallW) rfl m.call_all ?_)
            | (refine wpList_load_row (by rfl) 38 _ (by rfl) w1.heap.size (by rfl) 38 m.call.toArray (0, 0) _ HX.out Try.underlying38 rfl (by exact Try.sizeCallW) ?_)
            | (refine wpList_load_mid (by rfl) 32 _ (by rfl) w1.heap.size 2 (by rfl) m.op _ HOR.out Try.underlying32 rfl (by exact Try.sizeOpW) ?_))
    go_ret
    exact ⟨_, rfl, by simpa using HF.out, HK2.out⟩
  have e4 : ((m.nr : Int) == 0) = false := by simp; omega
  by_cases q4 : OpRight m.ok m.off m.on m.p m.q m.od.length
  · have HWY2 := Lib.hid (HWY.out q4 w2 HO2.out)
    have HT : Hid m.CallOk := Lib.hid (HF.out.2 ⟨⟨by omega, by omega⟩, q3, q4⟩)
    go_wp2_with (first
            | (refine wpList_load_mid (by rfl) 38 _ (by rfl) w.heap.size 39 (by rfl) m.call _ HB.out.callR Try.underlying38 rfl (by exact Try.sizeCallW) ?_)
            | (refine wpList_store_row (by rfl) 38 _ _ (by rfl) w1.heap.size m.call.toArray (by rfl) (by rfl) 38 call0.toArray (heap_alloc_new w1 _) (by exact Try.sizeCallW) rfl m.call_all ?_)
            | (refine wpList_load_row (by rfl) 38 _ (by rfl) w1.heap.size (by rfl) 38 m.call.toArray (0, 0) _ HX.out Try.underlying38 rfl (by exact Try.sizeCallW) ?_)
            | (refine wpList_load_mid (by rfl) 32 _ (by rfl) w1.heap.size 2 (by rfl) m.op _ HOR.out Try.underlying32 rfl (by exact Try.sizeOpW) ?_))
    ((with_reducible refine (HWY2.out).mono ?_); rintro e w3 ⟨v, rfl, ho3, hk3⟩)
    have HK3 := Lib.hid (HK2.out.trans hk3 (fun _ _ e => e))
    clear hk3
    clear ho3
    go_wp2
    go_ret
    exact ⟨_, rfl, by simpa using HT.out, HK3.out⟩
  · have HWN2 := Lib.hid (HWN.out q4 w2)
    have HT : Hid (¬ m.CallOk) := Lib.hid (fun h => q4 (HF.out.1 h).2.2)
    go_wp2_with (first
            | (refine wpList_load_mid (by rfl) 38 _ (by rfl) w.heap.size 39 (by rfl) m.call _ HB.out.callR Try.underlying38 rfl (by exact Try.sizeCallW) ?_)
            | (refine wpList_store_row (by rfl) 38 _ _ (by rfl) w1.heap.size m.call.toArray (by rfl) (by rfl) 38 call0.toArray (heap_alloc_new w1 _) (by exact Try.sizeCallW) rfl m.call_all ?_)
            | (refine wpList_load_row (by rfl) 38 _ (by rfl) w1.heap.size (by rfl) 38 m.call.toArray (0, 0) _ HX.out Try.underlying38 rfl (by exact Try.sizeCallW) ?_)
            | (refine wpList_load_mid (by rfl) 32 _ (by rfl) w1.heap.size 2 (by rfl) m.op _ HOR.out Try.underlying32 rfl (by exact Try.sizeOpW) ?_))
    ((with_reducible refine (HWN2.out).mono ?_); rintro e w3 ⟨rfl, hk3⟩)
    have HK3 := Lib.hid (HK2.out.trans hk3 (fun _ _ e => e))
    clear hk3
    go_wp2
    go_ret
    exact ⟨_, rfl, by simpa using HT.out, HK3.out⟩
end Go.Proofs.Ytlglkkoippoafaa
