/- The document's example of a client. -/
import Derived.Test.YtlglkkoippoafaaCl5
namespace Go.Proofs.Ytlglkkoippoafaa
open Go.RowKit
set_option linter.unusedVariables false

def replyM : Msg := ⟨2, 0, 0, 0, 0, 0, 0, List.replicate 32 0, 2, 1, 0, ⟨#[]⟩, ⟨#[]⟩, 0, 0, none, 0, [], 0, 7, none, 0, [], none, 0, [], none, 0, [], none, 0, []⟩
theorem reply_in (w : World) : MsgIn w replyM := ⟨rfl, Bytes.nil _ _ _, Bytes.nil _ _ _, Strs.nil _ _ _, ⟨fun h e => by simp [replyM] at e, .inl rfl⟩, .inr ⟨0, rfl, rfl⟩, Reads.nil _ _ _, Reads.nil _ _ _, fun r e => by simp [replyM] at e, by simp [replyM], by simp [replyM]⟩
theorem reply_off (B : Nat) : replyM.Off B := ⟨(fun a e => by cases e), (fun a e => by cases e)⟩
theorem reply_right : replyM.Right := by
  refine ⟨by simp [replyM], by simp [replyM], by simp [replyM], ?_, ?_, by simp [replyM], by simp [replyM], fun b e => by simp [replyM] at e⟩
  · simp [Msg.CallOk, replyM, OpBlank]
  · simp [Msg.AnsOk, replyM, AnsRight]
theorem Try.zeroMsgL (w : World) : (zeroValue 45).run Try.prog w = .ok (.agg fetchZ.cells.toArray) w := by kernel_rfl
/-- A cell of a row of messages. -/
theorem MRow.cell {base : Nat} {w : World} {ms : List Msg} {g cap n : Nat} (h : MRow base w (.slice (some ⟨g, 0, none⟩) n cap) ms) (j : Nat) (hj : j < ms.length) (i : Nat) (v : Value) (hv : ms[j].cells[i]? = some v) : w.cell? ⟨g, j * 53 + i, none⟩ = some v := by
  have := h.own.cells rfl _ _ (mflat_get ms h.hd j hj i v hv)
  rwa [add_at, Nat.zero_add] at this
theorem MRow.form {base : Nat} {w : World} {v : Value} {ms : List Msg} (h : MRow base w v ms) (h0 : 0 < ms.length) : ∃ g cap, v = .slice (some ⟨g, 0, none⟩) ms.length cap ∧ base ≤ g ∧ g < w.heap.size := by
  rcases h.own.2 with ⟨_, h1⟩ | ⟨g, cap, cur, rfl, hb, hg, _⟩
  · omega
  · exact ⟨g, cap, rfl, hb, (h.own.lt g rfl).2⟩
theorem cell_sameC {w w' : World} {p : Addr} {v : Value} {S : Nat → Prop} (h : w.cell? p = some v) (k : Keeps S w w') (hS : ¬ S p.block) : w'.cell? p = some v := by
  rw [World.cell?_of_block (w := w) (k.block _ (World.block_lt_of_cell? w _ h) hS)]; exact h
def statOp : List Value := opL 9 0 0 ⟨#[47]⟩ ⟨#[]⟩ (.slice none 0 0)
set_option maxRecDepth 100000 in
set_option maxHeartbeats 12800000 in
theorem speaks25 (w : World) : Calls Try.prog 6 #[] w fun e w' => e = .returned (.bool true) ∧ Same w w' := by
  have hzm := Try.zeroMsgL
  have hza := Try.zeroAnsL
  obtain ⟨mc, hmc⟩ : ∃ mc, replyM.cells.toArray = mc := ⟨_, rfl⟩
  have HMC : Hid (mc = replyM.cells.toArray) := Lib.hid hmc.symm
  obtain ⟨zc, hzc⟩ : ∃ zc, fetchZ.cells.toArray = zc := ⟨_, rfl⟩
  have HZC : Hid (zc.size = mc.size ∧ mc.size = 53) := Lib.hid (by rw [← hzc, ← hmc, List.size_toArray, List.size_toArray]; exact ⟨(fetchZ.cells_length rfl).trans (replyM.cells_length rfl).symm, replyM.cells_length rfl⟩)
  have HALL : Hid (mc.all (·.oneCell') = true) := Lib.hid (by rw [← hmc]; exact replyM.cells_all)
  simp only [hzc] at hzm
  have HSZ : Hid ((Try.prog.info? 45).map (·.size) = some mc.size) := Lib.hid (by rw [HZC.out.2]; exact Try.sizeMsg)
  clear hmc hzc
  go_enter Try.func6, Try.ntmps6
  go_wp2_with fail
  ((with_reducible refine (new_any 2 (by omega) (by omega) w).mono ?_); rintro e w1 ⟨B, rfl, hc1, hB, hk1⟩)
  have HC1 := Lib.hid hc1
  have HK1 := Lib.hid hk1
  have HCR := Lib.hid (call_right B (cl0 2) 9 0 0 ⟨#[47]⟩ ⟨#[]⟩ (.slice none 0 0) [] w1 hc1 rfl (by simp [cl0]) (Reads.nil _ _ _) (fun a n c e => by cases e) (by simp [OpRight]; decide))
  unfold CallPost at HCR
  obtain ⟨sc, hsc⟩ : ∃ sc, (opL 9 0 0 ⟨#[47]⟩ ⟨#[]⟩ (.slice none 0 0)).toArray = sc := ⟨_, rfl⟩
  have HSC : Hid (sc = (opL 9 0 0 ⟨#[47]⟩ ⟨#[]⟩ (.slice none 0 0)).toArray) := Lib.hid hsc.symm
  rw [hsc] at HCR
  clear hc1 hk1 hsc
  go_wp2_with (refine wpList_buildTo (by rfl) 32 _ (by rfl) _ (by rfl) sc (by rw [HSC.out]; kernel_rfl) ?_)
  ((with_reducible refine HCR.out.mono ?_); rintro e w2 ⟨rfl, hk2, yo, yc, hc2⟩)
  have hcn : (((cl0 2).nr : Int) + 1) = 1 := rfl
  have HC2 := Lib.hid hc2
  have HK2 := Lib.hid hk2
  have HAK := Lib.hid (ask_any B _ 3 3 (by omega) w2 hc2 rfl (by simp [Cl.asks, cl0]))
  unfold AskPost at HAK
  rw [hcn]
  clear hc2 hk2 HCR hcn
  go_wp2_with fail
  ((with_reducible refine HAK.out.mono ?_); rintro e w3 ⟨v, ms, rfl, hm3, ha3, hl3, hk3⟩)
  obtain ⟨g, cp, rfl, hg1, hg2⟩ := hm3.form (by omega)
  obtain ⟨zo, zc', hz2⟩ := ha3 2 (by omega)
  have HLI : Hid (w3.cell? ⟨g, 108, none⟩ = some (.int .i64 2) ∧ w3.cell? ⟨g, 107, none⟩ = some (.int .i64 102)) := Lib.hid
    ⟨hm3.cell 2 (by omega) 2 _ (by rw [hz2]; rfl), hm3.cell 2 (by omega) 1 _ (by rw [hz2]; rfl)⟩
  have HC3 := Lib.hid (HC2.out.same hk3)
  have HGB : Hid (g ≠ B ∧ g < w3.heap.size) := Lib.hid ⟨by have := HC2.out.wh.lt; omega, hg2⟩
  have HK23 := Lib.hid (HK2.out.trans hk3 (fun _ _ e => e.elim))
  rw [hl3]
  clear hm3 ha3 hl3 hk3 hg1 hg2 hz2 HAK
  obtain ⟨w4, hw4⟩ : ∃ w4, (w3.alloc (.cells zc 45)).setRow w3.heap.size mc = w4 := ⟨_, rfl⟩
  have HW4 := Lib.hid hw4
  have hk34 : Same w3 w4 := by rw [← hw4]; exact ((Keeps.refl (fun _ => False) _).alloc _).setRow _ _ (.inl (Nat.le_refl _))
  have HMW4 : Hid (w4.heap[w3.heap.size]? = some (.cells mc 45 (0, 0))) := Lib.hid (by rw [← hw4]; exact setRow_heap _ _ _ _ _ (0, 0) (heap_alloc_new w3 _))
  have HC4 := Lib.hid (HC3.out.same hk34)
  have HNEW : Hid ((w3.alloc (.cells zc 45)).heap[w3.heap.size]? = some (.cells zc 45 (0, 0))) := Lib.hid (heap_alloc_new w3 _)
  have HL4 : Hid (w4.cell? ⟨g, 108, none⟩ = some (.int .i64 2) ∧ w4.cell? ⟨g, 107, none⟩ = some (.int .i64 102)) := Lib.hid ⟨cell_sameC HLI.out.1 hk34 (fun e => e), cell_sameC HLI.out.2 hk34 (fun e => e)⟩
  have HK14 : Hid (Keeps (fun q => q = B) w1 w4) := Lib.hid (HK23.out.trans hk34 (fun _ _ e => e.elim))
  have hb3 : B < w3.heap.size := HC3.out.wh.lt
  have HB3 := Lib.hid hb3
  have HT1 := Lib.hid (take_any B _ replyM w4 HC4.out (reply_in _) (reply_off B))
  rw [← HMC.out] at HT1
  unfold TakePost at HT1
  have HS34 : Hid (w3.heap.size < w4.heap.size) := Lib.hid (lt_of_block HMW4.out)
  clear hw4 hk34 hb3
  go_wp2_with (first
    | (refine wpList_buildTo (by rfl) 38 _ (by rfl) _ (by rfl) (callL 2 1 0 0 0 ⟨#[]⟩ ⟨#[]⟩ (.slice none 0 0)).toArray (by kernel_rfl) ?_)
    | (refine wpList_buildTo (by rfl) 41 _ (by rfl) _ (by rfl) (ansL 0 7 (.slice none 0 0) (.slice none 0 0)).toArray (by kernel_rfl) ?_)
    | (refine wpList_buildTo (by rfl) 45 _ (by rfl) _ (by rfl) mc (by rw [HMC.out]; kernel_rfl) ?_)
    | (refine wpList_store_row (by rfl) 45 _ _ (by rfl) w3.heap.size mc (by rfl) (by rfl) 45 zc HNEW.out HSZ.out HZC.out.1 HALL.out ?_; rw [HW4.out])
    | (refine wpList_load_row (by rfl) 45 _ (by rfl) w3.heap.size (by rfl) 45 mc (0, 0) _ HMW4.out Try.underlying45 rfl HSZ.out ?_))
  ((with_reducible refine HT1.out.mono ?_); rintro e w5 hr)
  rcases hr with ⟨_, y, bo, bc, rfl, hy, hs5, hk5, hc5⟩ | ⟨hno, _⟩
  case inr => exact absurd ⟨rfl, rfl, reply_right, rfl, rfl⟩ hno
  obtain ⟨yyo, yyc, rfl, _⟩ := id hy
  obtain ⟨ac1, hac1⟩ : ∃ x, (ansL replyM.ac replyM.an (.slice yyo replyM.ad.length yyc) (.slice bo replyM.ns.length bc)).toArray = x := ⟨_, rfl⟩
  rw [hac1]
  have HAC : Hid (ac1.size = 4 ∧ ac1.all (·.oneCell') = true ∧ ac1[1]? = some (.int .i64 7)) := Lib.hid (by rw [← hac1]; exact ⟨rfl, ansL_all _ _ _ _ _ _ _ _, rfl⟩)
  obtain ⟨w6, hw6⟩ : ∃ w6, (w5.alloc (.cells ansL0.toArray 41)).setRow w5.heap.size ac1 = w6 := ⟨_, rfl⟩
  have HW6 := Lib.hid hw6
  have HN6 : Hid ((w5.alloc (.cells ansL0.toArray 41)).heap[w5.heap.size]? = some (.cells ansL0.toArray 41 (0, 0))) := Lib.hid (heap_alloc_new w5 _)
  have hk56 : Same w5 w6 := by rw [← hw6]; exact ((Keeps.refl (fun _ => False) _).alloc _).setRow _ _ (.inl (Nat.le_refl _))
  have HA6 : Hid (w6.heap[w5.heap.size]? = some (.cells ac1 41 (0, 0))) := Lib.hid (by rw [← hw6]; exact setRow_heap _ _ _ _ _ (0, 0) (heap_alloc_new w5 _))
  have HC6 := Lib.hid (hc5.same hk56)
  have HK16 : Hid (Keeps (fun q => q = B) w1 w6) := Lib.hid ((HK14.out.trans hk5 (fun _ _ e => e)).trans hk56 (fun _ _ e => e.elim))
  have HMW6 : Hid (w6.heap[w3.heap.size]? = some (.cells mc 45 (0, 0))) := Lib.hid (hk56.obj (hk5.obj HMW4.out (by have := HB3.out; omega)) (fun e => e))
  have HL6 : Hid (w6.cell? ⟨g, 108, none⟩ = some (.int .i64 2) ∧ w6.cell? ⟨g, 107, none⟩ = some (.int .i64 102)) := Lib.hid
    ⟨cell_sameC (cell_sameC HL4.out.1 hk5 HGB.out.1) hk56 (fun e => e), cell_sameC (cell_sameC HL4.out.2 hk5 HGB.out.1) hk56 (fun e => e)⟩
  have HT2 := Lib.hid (take_any B _ replyM w6 HC6.out (reply_in _) (reply_off B))
  rw [← HMC.out] at HT2
  unfold TakePost at HT2
  have HIA : Hid ((Try.prog.info? 41).map (·.size) = some ac1.size) := Lib.hid (by rw [HAC.out.1]; exact Try.sizeAnsW)
  have HIZ : Hid (ansL0.toArray.size = ac1.size) := Lib.hid (by rw [HAC.out.1]; rfl)
  have HALA := Lib.hid HAC.out.2.1
  clear hy hs5 hk5 hc5 hac1 hw6 hk56 HT1 HW4 HNEW
  go_wp2_with (first
    | (refine wpList_store_row (by rfl) 41 _ _ (by rfl) w5.heap.size ac1 (by rfl) (by rfl) 41 ansL0.toArray HN6.out HIA.out HIZ.out HALA.out ?_; rw [HW6.out])
    | (refine wpList_load_row (by rfl) 45 _ (by rfl) w3.heap.size (by rfl) 45 mc (0, 0) _ HMW6.out Try.underlying45 rfl HSZ.out ?_))
  ((with_reducible refine HT2.out.mono ?_); rintro e w7 hr)
  rcases hr with ⟨hyes, _⟩ | ⟨_, rfl, hk7⟩
  · have := hyes.1; simp [Cl.rests] at this
  obtain ⟨w8, hw8⟩ : ∃ w8, (w7.alloc (.cells ansL0.toArray 41)).setRow w7.heap.size ansL0.toArray = w8 := ⟨_, rfl⟩
  have HW8 := Lib.hid hw8
  have HN8 : Hid ((w7.alloc (.cells ansL0.toArray 41)).heap[w7.heap.size]? = some (.cells ansL0.toArray 41 (0, 0))) := Lib.hid (heap_alloc_new w7 _)
  have hk78 : Same w7 w8 := by rw [← hw8]; exact ((Keeps.refl (fun _ => False) _).alloc _).setRow _ _ (.inl (Nat.le_refl _))
  have hk68 : Same w6 w8 := hk7.trans hk78 (fun _ _ e => e)
  have l1 : w8.cell? ⟨g, 108, none⟩ = some (.int .i64 2) := cell_sameC HL6.out.1 hk68 (fun e => e)
  have l2 : w8.cell? ⟨g, 107, none⟩ = some (.int .i64 102) := cell_sameC HL6.out.2 hk68 (fun e => e)
  have l3 : w8.cell? ⟨w5.heap.size, 1, none⟩ = some (.int .i64 7) := by
    rw [cell_of_row _ _ _ _ _ _ (hk68.obj HA6.out (fun e => e))]
    exact HAC.out.2.2
  have HK8 : Hid (Same w w8) := Lib.hid (HK1.out.trans (HK16.out.trans hk68 (fun _ _ e => e.elim)) (fun q hq e => by omega))
  clear hk7 hw8 hk78 hk68 HT2 HW6 HN6
  go_wp2_with (refine wpList_store_row (by rfl) 41 _ _ (by rfl) w7.heap.size ansL0.toArray (by rfl) (by rfl) 41 ansL0.toArray HN8.out (by exact Try.sizeAnsW) rfl (ansL_all _ _ _ _ _ _ _ _) ?_; rw [HW8.out])
  go_ret
  exact ⟨rfl, HK8.out⟩
end Go.Proofs.Ytlglkkoippoafaa
