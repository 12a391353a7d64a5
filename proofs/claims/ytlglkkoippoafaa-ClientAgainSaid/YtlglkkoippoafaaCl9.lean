/- The walk of ClientAgain. -/
import Derived.Test.YtlglkkoippoafaaCl8
import Derived.Test.YtlglkkoippoafaaWm9
import Derived.Test.YtlglkkoippoafaaSame10
import Derived.Test.YtlglkkoippoafaaPlan5
namespace Go.Proofs.Ytlglkkoippoafaa
open Go.RowKit
set_option linter.unusedVariables false

def AskAt (w : World) (c : Cl) (N : Nat) (e : Ending) (w' : World) : Prop := ∃ o cp ms, e = .returned (.slice o N cp) ∧ MRow w.heap.size w' (.slice o N cp) ms ∧ AskAll c ms ∧ ms.length = N ∧ Same w w'
theorem asked_at (B : Nat) (c : Cl) (nodes : Int) (N : Nat) (hN : (N : Int) = max 0 (min nodes 7)) (w : World) (h : ClAt w B c) (hw : c.wt = true) (hid : 0 ≤ c.id ∧ c.id ≤ 3) : Calls Try.prog 13 #[.pointer (some ⟨B, 0, none⟩), .int .i64 nodes] w (AskAt w c N) :=
  (ask_any B c nodes N hN w h hw hid).mono fun e w' ⟨v, ms, he, hm, ha, hl, hk⟩ => by
    obtain ⟨o, cp, rfl⟩ := hm.len
    subst hl
    exact ⟨o, cp, ms, he, hm, ha, rfl, hk⟩
theorem asked_rest (B : Nat) (c : Cl) (nodes : Int) (w : World) (h : ClAt w B c) (hw : c.wt = false) : Calls Try.prog 13 #[.pointer (some ⟨B, 0, none⟩), .int .i64 nodes] w fun e w' => (∃ o cp, e = .returned (.slice o 0 cp)) ∧ Same w w' :=
  (ask_rest B c nodes w h hw).mono fun e w' ⟨v, ms, he, hm, _, hl, hk⟩ => by
    obtain ⟨o, cp, rfl⟩ := hm.len
    rw [hl] at he
    exact ⟨⟨o, cp, he⟩, hk⟩
theorem ask_in0 {w : World} {c : Cl} {i : Nat} {y : Option Addr} {z : Nat} (h : Reads w (.slice y c.ds.length z) c.ds) : MsgIn0 w (askM c i y z) := by
  refine ⟨rfl, ?_, Bytes.nil _ _ _, Strs.nil _ _ _, ⟨fun h e => by simp [askM] at e, .inl rfl⟩, .inr ⟨0, rfl, rfl⟩, h, Reads.nil _ _ _, fun r e => by simp [askM] at e⟩
  obtain ⟨_, _, _, h1, _⟩ := h
  exact h1
theorem ask_eqv (c : Cl) (i : Nat) (y : Option Addr) (z : Nat) (y2 : Option Addr) (z2 : Nat) : (askM c i y z).Eqv (askM c i y2 z2) :=
  ⟨rfl, rfl, rfl, rfl, rfl, rfl, rfl, rfl, rfl, rfl, ⟨rfl, rfl, rfl, rfl, rfl, rfl⟩, ⟨rfl, rfl, rfl, rfl⟩, rfl, rfl⟩
/-- What a row of messages says of one of them. -/
theorem MRow.pick {base : Nat} {w : World} {o : Option Addr} {n cp : Nat} {ms : List Msg} {c : Cl} (h : MRow base w (.slice o n cp) ms) (ha : AskAll c ms) (hl : ms.length = n) {i : Nat} (hi : i < n) :
    ∃ g y z, o = some ⟨g, 0, none⟩ ∧ w.rangeAt g (i * 53) (askM c i y z).cells ∧ MsgIn0 w (askM c i y z) := by
  subst hl
  obtain ⟨g, cp', e, _⟩ := h.form (by omega)
  simp only [Value.slice.injEq, true_and] at e
  obtain ⟨rfl, rfl⟩ := e
  obtain ⟨y, z, hm⟩ := ha i hi
  refine ⟨g, y, z, rfl, fun j v hv => h.cell i hi j v (by rw [hm]; exact hv), ask_in0 ?_⟩
  have := h.rd ms[i] (List.getElem_mem hi)
  rw [hm] at this
  exact this

set_option maxRecDepth 100000 in
set_option maxHeartbeats 25600000 in
theorem again_mid (N : Nat) (k f n : Int) (p t : ByteArray) (xo : Option Addr) (xc : Nat) (ds : List UInt8) (mo : Option Addr) (mcp : Nat) (ms : List Msg) (q1 : ¬ (N : Int) < 0) (q2 : (N : Int) ≤ 7) (w : World) (hx : Reads w (.slice xo ds.length xc) ds) (hm : MsgsAt w mo ms) : Calls Try.prog 5 #[.agg (opL k f n p t (.slice xo ds.length xc)).toArray, .slice mo ms.length mcp, .int .i64 (N : Int)] w fun e w' => e = .returned (.bool true) ∧ Same w w' := by
  have hzm := Try.zeroMsgL
  have hza := Try.zeroAnsL
  have HX := Lib.hid hx
  have HM := Lib.hid hm
  have HBD : Hid (((N : Nat) : Int) = max 0 (min ((N : Int)) 7)) := Lib.hid (by omega)
  obtain ⟨zc, hzc⟩ : ∃ zc, fetchZ.cells.toArray = zc := ⟨_, rfl⟩
  have HZC : Hid (zc.size = 53) := Lib.hid (by rw [← hzc, List.size_toArray]; exact fetchZ.cells_length rfl)
  simp only [hzc] at hzm
  obtain ⟨w1, hw1⟩ : ∃ w1, w.alloc (.cells (opL k f n p t (.slice xo ds.length xc)).toArray 32) = w1 := ⟨_, rfl⟩
  have HK1 : Hid (Same w w1) := Lib.hid (by rw [← hw1]; exact (Keeps.refl _ _).alloc _)
  have HO1 : Hid (w1.heap[w.heap.size]? = some (.cells (opL k f n p t (.slice xo ds.length xc)).toArray 32 (0, 0))) := Lib.hid (by rw [← hw1]; exact heap_alloc_new w _)
  clear hx hm hzc
  go_enter Try.func5, Try.ntmps5
  go_wp2_with fail
  ((with_reducible refine (speaks25 w1).mono ?_); rintro e w2 ⟨rfl, hk2⟩)
  have HK2 := Lib.hid (HK1.out.trans hk2 (fun _ _ e => e))
  have HO2 : Hid (w2.heap[w.heap.size]? = some (.cells (opL k f n p t (.slice xo ds.length xc)).toArray 32 (0, 0))) := Lib.hid (hk2.obj HO1.out (fun e => e))
  have HGR : Hid (Calls Try.prog 9 #[.agg (opL k f n p t (.slice xo ds.length xc)).toArray] w2 fun e w' => (∃ b, e = .returned (.bool b)) ∧ Same w2 w') := Lib.hid ((great_op k f n p t xo ds.length xc w2).mono fun e w' ⟨he, hk⟩ => ⟨⟨_, he⟩, hk⟩)
  clear hk2 hw1
  go_wp2_with (refine wpList_load_row (by rfl) 32 _ (by rfl) w.heap.size (by rfl) 32 (opL k f n p t (.slice xo ds.length xc)).toArray (0, 0) _ HO2.out Try.underlying32 rfl (by exact Try.sizeOpW) ?_)
  ((with_reducible refine HGR.out.mono ?_); rintro e w3 ⟨⟨b, rfl⟩, hk3⟩)
  have HK3 := Lib.hid (HK2.out.trans hk3 (fun _ _ e => e))
  have HO3 : Hid (w3.heap[w.heap.size]? = some (.cells (opL k f n p t (.slice xo ds.length xc)).toArray 32 (0, 0))) := Lib.hid (hk3.obj HO2.out (fun e => e))
  clear hk3 HGR
  cases b with
  | true =>
    go_wp2_with fail
    go_ret
    exact ⟨rfl, HK3.out⟩
  | false =>
  by_cases ql : (20 : Int) < (ms.length : Int)
  · go_wp2_with fail
    go_ret
    exact ⟨rfl, HK3.out⟩
  have HNW := Lib.hid (new_any 2 (by omega) (by omega) w3)
  go_wp2_with fail
  ((with_reducible refine HNW.out.mono ?_); rintro e w4 ⟨B, rfl, hc4, hB, hk4⟩)
  have HC4 := Lib.hid hc4
  have HB : Hid (w.heap.size ≤ B ∧ w.heap.size < w3.heap.size ∧ w3.heap.size ≤ B) := Lib.hid (by have := HK3.out.size; have := lt_of_block HO3.out; omega)
  have HK4 := Lib.hid (HK3.out.trans hk4 (fun _ _ e => e))
  have HO4 : Hid (w4.heap[w.heap.size]? = some (.cells (opL k f n p t (.slice xo ds.length xc)).toArray 32 (0, 0))) := Lib.hid (hk4.obj HO3.out (fun e => e))
  have HX4 := Lib.hid (HX.out.same HK4.out)
  have HOF : Hid (∀ m : Msg, MsgIn w m → m.Off B) := Lib.hid (fun m h => h.off HB.out.1)
  clear hc4 hB hk4
  by_cases hr : OpRight k f n p t ds.length
  case neg =>
    have HCL := Lib.hid (call_wrong B (cl0 2) k f n p t (.slice xo ds.length xc) ds w4 HC4.out rfl HX4.out hr)
    clear hr
    go_wp2_with (refine wpList_load_row (by rfl) 32 _ (by rfl) w.heap.size (by rfl) 32 (opL k f n p t (.slice xo ds.length xc)).toArray (0, 0) _ HO4.out Try.underlying32 rfl (by exact Try.sizeOpW) ?_)
    ((with_reducible refine HCL.out.mono ?_); rintro e w5 ⟨rfl, hk5⟩)
    have HK5 := Lib.hid (HK4.out.trans hk5 (fun _ _ e => e))
    have HC5 := Lib.hid (HC4.out.same hk5)
    have HWC := Lib.hid (waits_at B (cl0 2) false w5 HC5.out rfl)
    clear hk5 HCL
    go_wp2_with fail
    ((with_reducible refine HWC.out.mono ?_); rintro e w6 ⟨rfl, hk6⟩)
    have HK6 := Lib.hid (HK5.out.trans hk6 (fun _ _ e => e))
    have HAK := Lib.hid (asked_rest B (cl0 2) ((N : Int)) w6 (HC5.out.same hk6) rfl)
    clear hk6
    go_wp2_with fail
    ((with_reducible refine HAK.out.mono ?_); rintro e w7 ⟨⟨ox, cx, rfl⟩, hk7⟩)
    have HK7 := Lib.hid (HK6.out.trans hk7 (fun _ _ e => e))
    clear hk7
    go_wp2_with fail
    go_ret
    exact ⟨rfl, HK7.out⟩
  have HCL := Lib.hid (call_right B (cl0 2) k f n p t (.slice xo ds.length xc) ds w4 HC4.out rfl (by simp [cl0]) HX4.out (fun a n' c' e h0 => by
    simp only [Value.slice.injEq] at e
    have h1 := reads_low HX.out a e.1 h0
    have h2 := HB.out
    omega) hr)
  unfold CallPost at HCL
  clear hr
  go_wp2_with (refine wpList_load_row (by rfl) 32 _ (by rfl) w.heap.size (by rfl) 32 (opL k f n p t (.slice xo ds.length xc)).toArray (0, 0) _ HO4.out Try.underlying32 rfl (by exact Try.sizeOpW) ?_)
  ((with_reducible refine HCL.out.mono ?_); rintro e w5 ⟨rfl, hk5, yo, yc, hc5⟩)
  have hcn : (((cl0 2).nr : Int) + 1) = 1 := rfl
  rw [hcn]
  have HK5 := Lib.hid (keepsB HB.out.1 HK4.out hk5)
  have HC5 := Lib.hid hc5
  have HFA : Hid (((cl0 2).asks k f n p t yo yc ds).wt = true ∧ ((cl0 2).asks k f n p t yo yc ds).nr = 1 ∧ ((cl0 2).asks k f n p t yo yc ds).id = 2) := Lib.hid ⟨rfl, by simp [Cl.asks, cl0], by simp [Cl.asks, cl0]⟩
  obtain ⟨cA, hcA⟩ : ∃ x, (cl0 2).asks k f n p t yo yc ds = x := ⟨_, rfl⟩
  rw [hcA] at HFA HC5
  have HAK := Lib.hid (asked_at B cA ((N : Int)) (N) HBD.out w5 HC5.out HFA.out.1 (by have := HFA.out.2.2; omega))
  unfold AskAt at HAK
  clear hk5 hc5 hcA HCL hcn
  go_wp2_with fail
  ((with_reducible refine HAK.out.mono ?_); rintro e wf ⟨o1, c1, fs, rfl, hm1, ha1, hl1, hkf⟩)
  have HKF := Lib.hid (HK5.out.trans hkf (fun _ _ e => e))
  have HCF := Lib.hid (HC5.out.same hkf)
  have HM1 := Lib.hid hm1
  have HA1 := Lib.hid ha1
  have HL1 := Lib.hid hl1
  clear hkf hm1 ha1 hl1 HAK
  have hmin : min (N : Int) 7 = (N : Int) := by omega
  have hmax : max 0 (N : Int) = (N : Int) := by omega
  go_wp2_with fail
  clear hmin hmax
  go_loopw [62] (fun i wr => ∃ j : Nat, j ≤ ms.length ∧ i = .int .i64 j ∧ Hid (Same wf wr)) (fun i _ => ms.length - (intOf i).toNat)
  case atStart => exact ⟨0, by omega, rfl, Lib.hid (Keeps.refl _ _)⟩
  case round =>
    obtain ⟨j, hj, rfl, HS⟩ := hrel
    by_cases hlt : j < ms.length
    case neg =>
      obtain rfl : j = ms.length := by omega
      have hjn : ¬ (ms.length : Int) < (ms.length : Int) := by omega
      have HWC := Lib.hid (waits_at B cA true wr (HCF.out.same HS.out) HFA.out.1)
      go_wp2_with fail
      ((with_reducible refine HWC.out.mono ?_); rintro e w6 ⟨rfl, hk6⟩)
      have HK6 := Lib.hid ((HKF.out.trans HS.out (fun _ _ e => e)).trans hk6 (fun _ _ e => e))
      clear hk6
      go_wp2_with fail
      go_ret
      exact ⟨rfl, HK6.out⟩
    have hjn : (j : Int) < (ms.length : Int) := by omega
    have HJ := Lib.hid hlt
    have HSR := Lib.hid (HKF.out.trans HS.out (fun _ _ e => e))
    have hjl : ((j : Int) < 21) := by omega
    obtain ⟨mg, mf, hme, hmr, hmi⟩ := (HM.out.same HSR.out).at (j := j) (by omega)
    subst hme
    obtain ⟨m, hmm⟩ : ∃ x, ms[j]'(by omega) = x := ⟨_, rfl⟩
    have hmw : MsgIn w m := by
      obtain ⟨_, _, _, _, h⟩ := HM.out.at (j := j) (by omega)
      rwa [show ms[j]'(by omega) = m from hmm] at h
    rw [hmm] at hmr hmi
    have HR := Lib.hid hmr
    have HMI := Lib.hid hmi
    have HMW := Lib.hid hmw
    have HSZ := Lib.hid (Try.sizeMsgOf m hmi.hd)
    obtain ⟨w7, hw7⟩ : ∃ w7, (wr.alloc (.cells zc 45)).setRow wr.heap.size m.cells.toArray = w7 := ⟨_, rfl⟩
    have HW7 := Lib.hid hw7
    have hk7 : Same wr w7 := by rw [← hw7]; exact ((Keeps.refl (fun _ => False) _).alloc _).setRow _ _ (.inl (Nat.le_refl _))
    have HN7 : Hid ((wr.alloc (.cells zc 45)).heap[wr.heap.size]? = some (.cells zc 45 (0, 0))) := Lib.hid (heap_alloc_new wr _)
    have HR7 : Hid (w7.heap[wr.heap.size]? = some (.cells m.cells.toArray 45 (0, 0))) := Lib.hid (by rw [← hw7]; exact setRow_heap _ _ _ _ _ (0, 0) (heap_alloc_new wr _))
    have HMA7 : Hid (MsgAt w7 wr.heap.size m) := Lib.hid ⟨HR7.out, hmi.hd⟩
    have HZS : Hid (zc.size = m.cells.toArray.size) := Lib.hid (by rw [HZC.out, List.size_toArray, m.cells_length hmi.hd])
    have HK7 := Lib.hid (HS.out.trans hk7 (fun _ _ e => e))
    have HTK := Lib.hid (take_any B cA m w7 (HCF.out.same HK7.out) (HMI.out.same hk7) (HOF.out m hmw))
    unfold TakePost at HTK
    have a0 : w7.cell? ⟨wr.heap.size, 0, none⟩ = some (.int .i64 m.k) := HMA7.out.low 0 _ (by omega) rfl
    have a39 : w7.cell? ⟨wr.heap.size, 39, none⟩ = some (.int .i64 m.cl) := HMA7.out.high 0 39 _ rfl rfl
    have a40 : w7.cell? ⟨wr.heap.size, 40, none⟩ = some (.int .u64 (m.nr : Int)) := HMA7.out.high 1 40 _ rfl rfl
    clear hmr hmi hmw hmm hk7 hw7 hj hlt
    by_cases p1 : m.k = 2
    case neg =>
      have HP := Lib.hid p1
      have e1 : (m.k == 2) = false := by simpa using p1
      clear p1
      go_wp2_with (first | (refine wpList_load_mid (by rfl) 45 _ (by rfl) mg (mf + j * 53) (by rfl) m.cells _ HR.out Try.underlying45 rfl HSZ.out ?_) | (refine wpList_store_row (by rfl) 45 _ _ (by rfl) wr.heap.size m.cells.toArray (by rfl) (by rfl) 45 zc HN7.out HSZ.out HZS.out m.cells_all ?_; rw [HW7.out]) | (refine wpList_load_row (by rfl) 45 _ (by rfl) wr.heap.size (by rfl) 45 m.cells.toArray (0, 0) _ HR7.out Try.underlying45 rfl HSZ.out ?_))
      ((with_reducible refine HTK.out.mono ?_); rintro e w8 hr)
      rcases hr with ⟨hyes, _⟩ | ⟨_, rfl, hk8⟩
      · exact absurd hyes.2.1 HP.out
      obtain ⟨w9, hw9⟩ : ∃ w9, (w8.alloc (.cells ansL0.toArray 41)).setRow w8.heap.size ansL0.toArray = w9 := ⟨_, rfl⟩
      have HW9 := Lib.hid hw9
      have HN9 : Hid ((w8.alloc (.cells ansL0.toArray 41)).heap[w8.heap.size]? = some (.cells ansL0.toArray 41 (0, 0))) := Lib.hid (heap_alloc_new w8 _)
      have hk9 : Same w8 w9 := by rw [← hw9]; exact ((Keeps.refl (fun _ => False) _).alloc _).setRow _ _ (.inl (Nat.le_refl _))
      have HK9 := Lib.hid ((HK7.out.trans hk8 (fun _ _ e => e)).trans hk9 (fun _ _ e => e))
      have HAK := Lib.hid (asked_at B cA ((N : Int)) (N) HBD.out w9 (HCF.out.same HK9.out) HFA.out.1 (by have := HFA.out.2.2; omega))
      unfold AskAt at HAK
      clear hk8 hk9 hw9 HTK a0 a39 a40
      go_wp2_with (refine wpList_store_row (by rfl) 41 _ _ (by rfl) w8.heap.size ansL0.toArray (by rfl) (by rfl) 41 ansL0.toArray HN9.out (by exact Try.sizeAnsW) rfl (ansL_all _ _ _ _ _ _ _ _) ?_; rw [HW9.out])
      ((with_reducible refine HAK.out.mono ?_); rintro e ws ⟨o2, c2, ss, rfl, hm2, ha2, hl2, hks⟩)
      have HKS := Lib.hid (HK9.out.trans hks (fun _ _ e => e))
      have HM2 := Lib.hid hm2
      have HA2 := Lib.hid ha2
      have HL2 := Lib.hid hl2
      clear hks hm2 ha2 hl2 HAK
      go_wp2_with fail
      go_loopw [94] (fun v wq => ∃ i : Nat, i ≤ N ∧ v = .int .i64 i ∧ Hid (Same ws wq)) (fun v _ => N - (intOf v).toNat)
      case atStart => exact ⟨0, by omega, rfl, Lib.hid (Keeps.refl _ _)⟩
      case round =>
        obtain ⟨i, hi, rfl, HSI⟩ := hrel
        have HEND := Lib.hid (HKS.out.trans HSI.out (fun _ _ e => e))
        by_cases hil : i < N
        case neg =>
          have hin : ¬ (i : Int) < (N : Int) := by omega
          go_wp2_with fail
          go_roundw
          case rel =>
            first
              | exact ⟨j + 1, by have := HJ.out; omega, by go_num, HEND⟩
              | exact ⟨_, _, _, _, _, _, _, ⟨j + 1, by have := HJ.out; omega, by go_num⟩, rfl, rfl, rfl, rfl, rfl, rfl, rfl⟩
              | exact ⟨_, _, _, _, _, _, _, ⟨j + 1, by have := HJ.out; omega, by go_num, HEND⟩, rfl, rfl, rfl, rfl, rfl, rfl, rfl⟩
          case measure => have := HJ.out; simp [intOf]; omega
        have hin : (i : Int) < (N : Int) := by omega
        have HIL := Lib.hid hil
        obtain ⟨g1, y1, z1, rfl, hr1, hi1⟩ := (HM1.out.same (HKS.out.trans HSI.out (fun _ _ e => e))).pick HA1.out HL1.out hil
        obtain ⟨g2, y2, z2, rfl, hr2, hi2⟩ := (HM2.out.same HSI.out).pick HA2.out HL2.out hil
        have HRF := Lib.hid hr1
        have HIF := Lib.hid hi1
        have HRS := Lib.hid hr2
        have HIS := Lib.hid hi2
        clear hr1 hi1 hr2 hi2 hil hi
        go_wp2_with fail
        refine wp_region_do [[], [], [0, 1], [2], [], [], [4, 5], [6], [3, 7], [8]]
          [some 97, some 98, some 99, some 100, some 101, some 102, some 103, some 104, some 105, some 106]
          [.is (.slice (some ⟨g2, 0, none⟩) N c2), .is (.int .i64 (i : Int)), .is (.pointer (some ⟨g2, i * 53, none⟩)), .is (.agg (askM cA i y2 z2).cells.toArray), .is (.slice (some ⟨g1, 0, none⟩) N c1), .is (.int .i64 (i : Int)), .is (.pointer (some ⟨g1, i * 53, none⟩)), .is (.agg (askM cA i y1 z1).cells.toArray), .is (.bool true), .is (.bool false)]
          25 _ _ 111 10 (by kernel_rfl) (by rfl) (by rfl) (by kernel_rfl) (by kernel_rfl) (by decide) ?_ ?_
        · refine ⟨?_, ?_, ?_, ?_, ?_, ?_, ?_, ?_, ?_, ?_, trivial⟩
          · intro a w' K hs' hdep hfr hK
            have f16 := hfr 16 (by decide)
            exact plan_do (by rfl) (plan_yield (i := 0) (V := fun _ _ v => v = (.slice (some ⟨g2, 0, none⟩) N c2 : Value)) (.slice (some ⟨g2, 0, none⟩) N c2) (by go_simp) rfl hK)
          · intro a w' K hs' hdep hfr hK
            have f17 := hfr 17 (by decide)
            exact plan_do (by rfl) (plan_yield (i := 1) (V := fun _ _ v => v = (.int .i64 (i : Int) : Value)) (.int .i64 (i : Int)) (by go_simp) rfl hK)
          · intro a w' K hs' hdep hfr hK
            have e97 : a.tmps[97]?.getD undef = (.slice (some ⟨g2, 0, none⟩) N c2) := hdep 0 (by decide) 97 rfl
            have e98 : a.tmps[98]?.getD undef = (.int .i64 (i : Int)) := hdep 1 (by decide) 98 rfl
            have hin : (i : Int) < (N : Int) := by have := HIL.out; omega
            exact plan_do (by rfl) (plan_yield (i := 2) (V := fun _ _ v => v = (.pointer (some ⟨g2, i * 53, none⟩) : Value)) (.pointer (some ⟨g2, i * 53, none⟩)) (by go_simp) rfl hK)
          · intro a w' K hs' hdep hfr hK
            have e99 : a.tmps[99]?.getD undef = (.pointer (some ⟨g2, i * 53, none⟩)) := hdep 2 (by decide) 99 rfl
            exact plan_do (by rfl) (wp_load_mid (P := Try.prog) 45 (.tmp 99) rfl g2 (i * 53) ((eval_tmp _ _).trans e99) (askM cA i y2 z2).cells _ (rangeW_same HRS.out hs') Try.underlying45 rfl (Try.sizeMsgOf (askM cA i y2 z2) rfl) (hK _ _ (Keeps.refl _ _) rfl))
          · intro a w' K hs' hdep hfr hK
            have f11 := hfr 11 (by decide)
            exact plan_do (by rfl) (plan_yield (i := 4) (V := fun _ _ v => v = (.slice (some ⟨g1, 0, none⟩) N c1 : Value)) (.slice (some ⟨g1, 0, none⟩) N c1) (by go_simp) rfl hK)
          · intro a w' K hs' hdep hfr hK
            have f17 := hfr 17 (by decide)
            exact plan_do (by rfl) (plan_yield (i := 5) (V := fun _ _ v => v = (.int .i64 (i : Int) : Value)) (.int .i64 (i : Int)) (by go_simp) rfl hK)
          · intro a w' K hs' hdep hfr hK
            have e101 : a.tmps[101]?.getD undef = (.slice (some ⟨g1, 0, none⟩) N c1) := hdep 4 (by decide) 101 rfl
            have e102 : a.tmps[102]?.getD undef = (.int .i64 (i : Int)) := hdep 5 (by decide) 102 rfl
            have hin : (i : Int) < (N : Int) := by have := HIL.out; omega
            exact plan_do (by rfl) (plan_yield (i := 6) (V := fun _ _ v => v = (.pointer (some ⟨g1, i * 53, none⟩) : Value)) (.pointer (some ⟨g1, i * 53, none⟩)) (by go_simp) rfl hK)
          · intro a w' K hs' hdep hfr hK
            have e103 : a.tmps[103]?.getD undef = (.pointer (some ⟨g1, i * 53, none⟩)) := hdep 6 (by decide) 103 rfl
            exact plan_do (by rfl) (wp_load_mid (P := Try.prog) 45 (.tmp 103) rfl g1 (i * 53) ((eval_tmp _ _).trans e103) (askM cA i y1 z1).cells _ (rangeW_same HRF.out hs') Try.underlying45 rfl (Try.sizeMsgOf (askM cA i y1 z1) rfl) (hK _ _ (Keeps.refl _ _) rfl))
          · intro a w' K hs' hdep hfr hK
            have e100 : a.tmps[100]?.getD undef = (.agg (askM cA i y2 z2).cells.toArray) := hdep 3 (by decide) 100 rfl
            have e104 : a.tmps[104]?.getD undef = (.agg (askM cA i y1 z1).cells.toArray) := hdep 7 (by decide) 104 rfl
            refine plan_do (by rfl) (plan_call 15 #[.agg (askM cA i y2 z2).cells.toArray, .agg (askM cA i y1 z1).cells.toArray] (by go_simp) ?_)
            refine (sameMsg0_any (askM cA i y2 z2) (askM cA i y1 z1) w' (HIS.out.same hs') (HIF.out.same hs') ⟨by simp [askM], by simp [askM], by simp [askM]⟩).mono fun e w'' ⟨b, he, hb, hk⟩ => ⟨_, he, hK _ _ hk ?_⟩
            cases b with
            | true => rfl
            | false => exact absurd (hb.2 (ask_eqv cA i y2 z2 y1 z1)) (by simp)
          · intro a w' K hs' hdep hfr hK
            have e105 : a.tmps[105]?.getD undef = (.bool true) := hdep 8 (by decide) 105 rfl
            exact plan_do (by rfl) (plan_yield (i := 9) (V := fun _ _ v => v = (.bool false : Value)) (.bool false) (by go_simp) rfl hK)
        intro a wz hkz hdef hsz hv hfr
        have e106 : a.tmps[106]?.getD undef = (.bool false) := hv 9 106 rfl
        have he := act_eq a _ [some 97, some 98, some 99, some 100, some 101, some 102, some 103, some 104, some 105, some 106] 111 rfl hsz hdef hfr (fun d => a.tmps[d]?.getD undef) (fun _ _ => rfl)
        obtain ⟨v97, h97⟩ : ∃ v, a.tmps[97]?.getD undef = v := ⟨_, rfl⟩
        obtain ⟨v98, h98⟩ : ∃ v, a.tmps[98]?.getD undef = v := ⟨_, rfl⟩
        obtain ⟨v99, h99⟩ : ∃ v, a.tmps[99]?.getD undef = v := ⟨_, rfl⟩
        obtain ⟨v100, h100⟩ : ∃ v, a.tmps[100]?.getD undef = v := ⟨_, rfl⟩
        obtain ⟨v101, h101⟩ : ∃ v, a.tmps[101]?.getD undef = v := ⟨_, rfl⟩
        obtain ⟨v102, h102⟩ : ∃ v, a.tmps[102]?.getD undef = v := ⟨_, rfl⟩
        obtain ⟨v103, h103⟩ : ∃ v, a.tmps[103]?.getD undef = v := ⟨_, rfl⟩
        obtain ⟨v104, h104⟩ : ∃ v, a.tmps[104]?.getD undef = v := ⟨_, rfl⟩
        obtain ⟨v105, h105⟩ : ∃ v, a.tmps[105]?.getD undef = v := ⟨_, rfl⟩
        simp only [putAll, e106, h97, h98, h99, h100, h101, h102, h103, h104, h105, List.setIfInBounds_toArray, List.set_cons_zero, List.set_cons_succ] at he
        clear e106 h97 h98 h99 h100 h101 h102 h103 h104 h105 hdef hsz hv hfr
        subst he
        have HSZ2 := Lib.hid (HSI.out.trans hkz (fun _ _ e => e))
        clear hkz
        go_wp2_with fail
        go_roundw
        case rel => exact ⟨i + 1, by have := HIL.out; omega, by go_num, HSZ2⟩
        case measure => have := HIL.out; simp [intOf]; omega
    have e1 : (m.k == 2) = true := by simpa using p1
    clear p1
    by_cases p2 : m.cl = 2
    case neg =>
      have HP := Lib.hid p2
      have e2 : (m.cl == 2) = false := by simpa using p2
      clear p2
      go_wp2_with (first | (refine wpList_load_mid (by rfl) 45 _ (by rfl) mg (mf + j * 53) (by rfl) m.cells _ HR.out Try.underlying45 rfl HSZ.out ?_) | (refine wpList_store_row (by rfl) 45 _ _ (by rfl) wr.heap.size m.cells.toArray (by rfl) (by rfl) 45 zc HN7.out HSZ.out HZS.out m.cells_all ?_; rw [HW7.out]) | (refine wpList_load_row (by rfl) 45 _ (by rfl) wr.heap.size (by rfl) 45 m.cells.toArray (0, 0) _ HR7.out Try.underlying45 rfl HSZ.out ?_))
      ((with_reducible refine HTK.out.mono ?_); rintro e w8 hr)
      rcases hr with ⟨hyes, _⟩ | ⟨_, rfl, hk8⟩
      · exact absurd (hyes.2.2.2.1.trans HFA.out.2.2) HP.out
      obtain ⟨w9, hw9⟩ : ∃ w9, (w8.alloc (.cells ansL0.toArray 41)).setRow w8.heap.size ansL0.toArray = w9 := ⟨_, rfl⟩
      have HW9 := Lib.hid hw9
      have HN9 : Hid ((w8.alloc (.cells ansL0.toArray 41)).heap[w8.heap.size]? = some (.cells ansL0.toArray 41 (0, 0))) := Lib.hid (heap_alloc_new w8 _)
      have hk9 : Same w8 w9 := by rw [← hw9]; exact ((Keeps.refl (fun _ => False) _).alloc _).setRow _ _ (.inl (Nat.le_refl _))
      have HK9 := Lib.hid ((HK7.out.trans hk8 (fun _ _ e => e)).trans hk9 (fun _ _ e => e))
      have HAK := Lib.hid (asked_at B cA ((N : Int)) (N) HBD.out w9 (HCF.out.same HK9.out) HFA.out.1 (by have := HFA.out.2.2; omega))
      unfold AskAt at HAK
      clear hk8 hk9 hw9 HTK a0 a39 a40
      go_wp2_with (refine wpList_store_row (by rfl) 41 _ _ (by rfl) w8.heap.size ansL0.toArray (by rfl) (by rfl) 41 ansL0.toArray HN9.out (by exact Try.sizeAnsW) rfl (ansL_all _ _ _ _ _ _ _ _) ?_; rw [HW9.out])
      ((with_reducible refine HAK.out.mono ?_); rintro e ws ⟨o2, c2, ss, rfl, hm2, ha2, hl2, hks⟩)
      have HKS := Lib.hid (HK9.out.trans hks (fun _ _ e => e))
      have HM2 := Lib.hid hm2
      have HA2 := Lib.hid ha2
      have HL2 := Lib.hid hl2
      clear hks hm2 ha2 hl2 HAK
      go_wp2_with fail
      go_loopw [94] (fun v wq => ∃ i : Nat, i ≤ N ∧ v = .int .i64 i ∧ Hid (Same ws wq)) (fun v _ => N - (intOf v).toNat)
      case atStart => exact ⟨0, by omega, rfl, Lib.hid (Keeps.refl _ _)⟩
      case round =>
        obtain ⟨i, hi, rfl, HSI⟩ := hrel
        have HEND := Lib.hid (HKS.out.trans HSI.out (fun _ _ e => e))
        by_cases hil : i < N
        case neg =>
          have hin : ¬ (i : Int) < (N : Int) := by omega
          go_wp2_with fail
          go_roundw
          case rel =>
            first
              | exact ⟨j + 1, by have := HJ.out; omega, by go_num, HEND⟩
              | exact ⟨_, _, _, _, _, _, _, ⟨j + 1, by have := HJ.out; omega, by go_num⟩, rfl, rfl, rfl, rfl, rfl, rfl, rfl⟩
              | exact ⟨_, _, _, _, _, _, _, ⟨j + 1, by have := HJ.out; omega, by go_num, HEND⟩, rfl, rfl, rfl, rfl, rfl, rfl, rfl⟩
          case measure => have := HJ.out; simp [intOf]; omega
        have hin : (i : Int) < (N : Int) := by omega
        have HIL := Lib.hid hil
        obtain ⟨g1, y1, z1, rfl, hr1, hi1⟩ := (HM1.out.same (HKS.out.trans HSI.out (fun _ _ e => e))).pick HA1.out HL1.out hil
        obtain ⟨g2, y2, z2, rfl, hr2, hi2⟩ := (HM2.out.same HSI.out).pick HA2.out HL2.out hil
        have HRF := Lib.hid hr1
        have HIF := Lib.hid hi1
        have HRS := Lib.hid hr2
        have HIS := Lib.hid hi2
        clear hr1 hi1 hr2 hi2 hil hi
        go_wp2_with fail
        refine wp_region_do [[], [], [0, 1], [2], [], [], [4, 5], [6], [3, 7], [8]]
          [some 97, some 98, some 99, some 100, some 101, some 102, some 103, some 104, some 105, some 106]
          [.is (.slice (some ⟨g2, 0, none⟩) N c2), .is (.int .i64 (i : Int)), .is (.pointer (some ⟨g2, i * 53, none⟩)), .is (.agg (askM cA i y2 z2).cells.toArray), .is (.slice (some ⟨g1, 0, none⟩) N c1), .is (.int .i64 (i : Int)), .is (.pointer (some ⟨g1, i * 53, none⟩)), .is (.agg (askM cA i y1 z1).cells.toArray), .is (.bool true), .is (.bool false)]
          25 _ _ 111 10 (by kernel_rfl) (by rfl) (by rfl) (by kernel_rfl) (by kernel_rfl) (by decide) ?_ ?_
        · refine ⟨?_, ?_, ?_, ?_, ?_, ?_, ?_, ?_, ?_, ?_, trivial⟩
          · intro a w' K hs' hdep hfr hK
            have f16 := hfr 16 (by decide)
            exact plan_do (by rfl) (plan_yield (i := 0) (V := fun _ _ v => v = (.slice (some ⟨g2, 0, none⟩) N c2 : Value)) (.slice (some ⟨g2, 0, none⟩) N c2) (by go_simp) rfl hK)
          · intro a w' K hs' hdep hfr hK
            have f17 := hfr 17 (by decide)
            exact plan_do (by rfl) (plan_yield (i := 1) (V := fun _ _ v => v = (.int .i64 (i : Int) : Value)) (.int .i64 (i : Int)) (by go_simp) rfl hK)
          · intro a w' K hs' hdep hfr hK
            have e97 : a.tmps[97]?.getD undef = (.slice (some ⟨g2, 0, none⟩) N c2) := hdep 0 (by decide) 97 rfl
            have e98 : a.tmps[98]?.getD undef = (.int .i64 (i : Int)) := hdep 1 (by decide) 98 rfl
            have hin : (i : Int) < (N : Int) := by have := HIL.out; omega
            exact plan_do (by rfl) (plan_yield (i := 2) (V := fun _ _ v => v = (.pointer (some ⟨g2, i * 53, none⟩) : Value)) (.pointer (some ⟨g2, i * 53, none⟩)) (by go_simp) rfl hK)
          · intro a w' K hs' hdep hfr hK
            have e99 : a.tmps[99]?.getD undef = (.pointer (some ⟨g2, i * 53, none⟩)) := hdep 2 (by decide) 99 rfl
            exact plan_do (by rfl) (wp_load_mid (P := Try.prog) 45 (.tmp 99) rfl g2 (i * 53) ((eval_tmp _ _).trans e99) (askM cA i y2 z2).cells _ (rangeW_same HRS.out hs') Try.underlying45 rfl (Try.sizeMsgOf (askM cA i y2 z2) rfl) (hK _ _ (Keeps.refl _ _) rfl))
          · intro a w' K hs' hdep hfr hK
            have f11 := hfr 11 (by decide)
            exact plan_do (by rfl) (plan_yield (i := 4) (V := fun _ _ v => v = (.slice (some ⟨g1, 0, none⟩) N c1 : Value)) (.slice (some ⟨g1, 0, none⟩) N c1) (by go_simp) rfl hK)
          · intro a w' K hs' hdep hfr hK
            have f17 := hfr 17 (by decide)
            exact plan_do (by rfl) (plan_yield (i := 5) (V := fun _ _ v => v = (.int .i64 (i : Int) : Value)) (.int .i64 (i : Int)) (by go_simp) rfl hK)
          · intro a w' K hs' hdep hfr hK
            have e101 : a.tmps[101]?.getD undef = (.slice (some ⟨g1, 0, none⟩) N c1) := hdep 4 (by decide) 101 rfl
            have e102 : a.tmps[102]?.getD undef = (.int .i64 (i : Int)) := hdep 5 (by decide) 102 rfl
            have hin : (i : Int) < (N : Int) := by have := HIL.out; omega
            exact plan_do (by rfl) (plan_yield (i := 6) (V := fun _ _ v => v = (.pointer (some ⟨g1, i * 53, none⟩) : Value)) (.pointer (some ⟨g1, i * 53, none⟩)) (by go_simp) rfl hK)
          · intro a w' K hs' hdep hfr hK
            have e103 : a.tmps[103]?.getD undef = (.pointer (some ⟨g1, i * 53, none⟩)) := hdep 6 (by decide) 103 rfl
            exact plan_do (by rfl) (wp_load_mid (P := Try.prog) 45 (.tmp 103) rfl g1 (i * 53) ((eval_tmp _ _).trans e103) (askM cA i y1 z1).cells _ (rangeW_same HRF.out hs') Try.underlying45 rfl (Try.sizeMsgOf (askM cA i y1 z1) rfl) (hK _ _ (Keeps.refl _ _) rfl))
          · intro a w' K hs' hdep hfr hK
            have e100 : a.tmps[100]?.getD undef = (.agg (askM cA i y2 z2).cells.toArray) := hdep 3 (by decide) 100 rfl
            have e104 : a.tmps[104]?.getD undef = (.agg (askM cA i y1 z1).cells.toArray) := hdep 7 (by decide) 104 rfl
            refine plan_do (by rfl) (plan_call 15 #[.agg (askM cA i y2 z2).cells.toArray, .agg (askM cA i y1 z1).cells.toArray] (by go_simp) ?_)
            refine (sameMsg0_any (askM cA i y2 z2) (askM cA i y1 z1) w' (HIS.out.same hs') (HIF.out.same hs') ⟨by simp [askM], by simp [askM], by simp [askM]⟩).mono fun e w'' ⟨b, he, hb, hk⟩ => ⟨_, he, hK _ _ hk ?_⟩
            cases b with
            | true => rfl
            | false => exact absurd (hb.2 (ask_eqv cA i y2 z2 y1 z1)) (by simp)
          · intro a w' K hs' hdep hfr hK
            have e105 : a.tmps[105]?.getD undef = (.bool true) := hdep 8 (by decide) 105 rfl
            exact plan_do (by rfl) (plan_yield (i := 9) (V := fun _ _ v => v = (.bool false : Value)) (.bool false) (by go_simp) rfl hK)
        intro a wz hkz hdef hsz hv hfr
        have e106 : a.tmps[106]?.getD undef = (.bool false) := hv 9 106 rfl
        have he := act_eq a _ [some 97, some 98, some 99, some 100, some 101, some 102, some 103, some 104, some 105, some 106] 111 rfl hsz hdef hfr (fun d => a.tmps[d]?.getD undef) (fun _ _ => rfl)
        obtain ⟨v97, h97⟩ : ∃ v, a.tmps[97]?.getD undef = v := ⟨_, rfl⟩
        obtain ⟨v98, h98⟩ : ∃ v, a.tmps[98]?.getD undef = v := ⟨_, rfl⟩
        obtain ⟨v99, h99⟩ : ∃ v, a.tmps[99]?.getD undef = v := ⟨_, rfl⟩
        obtain ⟨v100, h100⟩ : ∃ v, a.tmps[100]?.getD undef = v := ⟨_, rfl⟩
        obtain ⟨v101, h101⟩ : ∃ v, a.tmps[101]?.getD undef = v := ⟨_, rfl⟩
        obtain ⟨v102, h102⟩ : ∃ v, a.tmps[102]?.getD undef = v := ⟨_, rfl⟩
        obtain ⟨v103, h103⟩ : ∃ v, a.tmps[103]?.getD undef = v := ⟨_, rfl⟩
        obtain ⟨v104, h104⟩ : ∃ v, a.tmps[104]?.getD undef = v := ⟨_, rfl⟩
        obtain ⟨v105, h105⟩ : ∃ v, a.tmps[105]?.getD undef = v := ⟨_, rfl⟩
        simp only [putAll, e106, h97, h98, h99, h100, h101, h102, h103, h104, h105, List.setIfInBounds_toArray, List.set_cons_zero, List.set_cons_succ] at he
        clear e106 h97 h98 h99 h100 h101 h102 h103 h104 h105 hdef hsz hv hfr
        subst he
        have HSZ2 := Lib.hid (HSI.out.trans hkz (fun _ _ e => e))
        clear hkz
        go_wp2_with fail
        go_roundw
        case rel => exact ⟨i + 1, by have := HIL.out; omega, by go_num, HSZ2⟩
        case measure => have := HIL.out; simp [intOf]; omega
    have e2 : (m.cl == 2) = true := by simpa using p2
    clear p2
    by_cases p3 : m.nr = 1
    case neg =>
      have HP := Lib.hid p3
      have e3 : ((m.nr : Int) == 1) = false := by simp; omega
      clear p3
      go_wp2_with (first | (refine wpList_load_mid (by rfl) 45 _ (by rfl) mg (mf + j * 53) (by rfl) m.cells _ HR.out Try.underlying45 rfl HSZ.out ?_) | (refine wpList_store_row (by rfl) 45 _ _ (by rfl) wr.heap.size m.cells.toArray (by rfl) (by rfl) 45 zc HN7.out HSZ.out HZS.out m.cells_all ?_; rw [HW7.out]) | (refine wpList_load_row (by rfl) 45 _ (by rfl) wr.heap.size (by rfl) 45 m.cells.toArray (0, 0) _ HR7.out Try.underlying45 rfl HSZ.out ?_))
      ((with_reducible refine HTK.out.mono ?_); rintro e w8 hr)
      rcases hr with ⟨hyes, _⟩ | ⟨_, rfl, hk8⟩
      · exact absurd (hyes.2.2.2.2.trans HFA.out.2.1) HP.out
      obtain ⟨w9, hw9⟩ : ∃ w9, (w8.alloc (.cells ansL0.toArray 41)).setRow w8.heap.size ansL0.toArray = w9 := ⟨_, rfl⟩
      have HW9 := Lib.hid hw9
      have HN9 : Hid ((w8.alloc (.cells ansL0.toArray 41)).heap[w8.heap.size]? = some (.cells ansL0.toArray 41 (0, 0))) := Lib.hid (heap_alloc_new w8 _)
      have hk9 : Same w8 w9 := by rw [← hw9]; exact ((Keeps.refl (fun _ => False) _).alloc _).setRow _ _ (.inl (Nat.le_refl _))
      have HK9 := Lib.hid ((HK7.out.trans hk8 (fun _ _ e => e)).trans hk9 (fun _ _ e => e))
      have HAK := Lib.hid (asked_at B cA ((N : Int)) (N) HBD.out w9 (HCF.out.same HK9.out) HFA.out.1 (by have := HFA.out.2.2; omega))
      unfold AskAt at HAK
      clear hk8 hk9 hw9 HTK a0 a39 a40
      go_wp2_with (refine wpList_store_row (by rfl) 41 _ _ (by rfl) w8.heap.size ansL0.toArray (by rfl) (by rfl) 41 ansL0.toArray HN9.out (by exact Try.sizeAnsW) rfl (ansL_all _ _ _ _ _ _ _ _) ?_; rw [HW9.out])
      ((with_reducible refine HAK.out.mono ?_); rintro e ws ⟨o2, c2, ss, rfl, hm2, ha2, hl2, hks⟩)
      have HKS := Lib.hid (HK9.out.trans hks (fun _ _ e => e))
      have HM2 := Lib.hid hm2
      have HA2 := Lib.hid ha2
      have HL2 := Lib.hid hl2
      clear hks hm2 ha2 hl2 HAK
      go_wp2_with fail
      go_loopw [94] (fun v wq => ∃ i : Nat, i ≤ N ∧ v = .int .i64 i ∧ Hid (Same ws wq)) (fun v _ => N - (intOf v).toNat)
      case atStart => exact ⟨0, by omega, rfl, Lib.hid (Keeps.refl _ _)⟩
      case round =>
        obtain ⟨i, hi, rfl, HSI⟩ := hrel
        have HEND := Lib.hid (HKS.out.trans HSI.out (fun _ _ e => e))
        by_cases hil : i < N
        case neg =>
          have hin : ¬ (i : Int) < (N : Int) := by omega
          go_wp2_with fail
          go_roundw
          case rel =>
            first
              | exact ⟨j + 1, by have := HJ.out; omega, by go_num, HEND⟩
              | exact ⟨_, _, _, _, _, _, _, ⟨j + 1, by have := HJ.out; omega, by go_num⟩, rfl, rfl, rfl, rfl, rfl, rfl, rfl⟩
              | exact ⟨_, _, _, _, _, _, _, ⟨j + 1, by have := HJ.out; omega, by go_num, HEND⟩, rfl, rfl, rfl, rfl, rfl, rfl, rfl⟩
          case measure => have := HJ.out; simp [intOf]; omega
        have hin : (i : Int) < (N : Int) := by omega
        have HIL := Lib.hid hil
        obtain ⟨g1, y1, z1, rfl, hr1, hi1⟩ := (HM1.out.same (HKS.out.trans HSI.out (fun _ _ e => e))).pick HA1.out HL1.out hil
        obtain ⟨g2, y2, z2, rfl, hr2, hi2⟩ := (HM2.out.same HSI.out).pick HA2.out HL2.out hil
        have HRF := Lib.hid hr1
        have HIF := Lib.hid hi1
        have HRS := Lib.hid hr2
        have HIS := Lib.hid hi2
        clear hr1 hi1 hr2 hi2 hil hi
        go_wp2_with fail
        refine wp_region_do [[], [], [0, 1], [2], [], [], [4, 5], [6], [3, 7], [8]]
          [some 97, some 98, some 99, some 100, some 101, some 102, some 103, some 104, some 105, some 106]
          [.is (.slice (some ⟨g2, 0, none⟩) N c2), .is (.int .i64 (i : Int)), .is (.pointer (some ⟨g2, i * 53, none⟩)), .is (.agg (askM cA i y2 z2).cells.toArray), .is (.slice (some ⟨g1, 0, none⟩) N c1), .is (.int .i64 (i : Int)), .is (.pointer (some ⟨g1, i * 53, none⟩)), .is (.agg (askM cA i y1 z1).cells.toArray), .is (.bool true), .is (.bool false)]
          25 _ _ 111 10 (by kernel_rfl) (by rfl) (by rfl) (by kernel_rfl) (by kernel_rfl) (by decide) ?_ ?_
        · refine ⟨?_, ?_, ?_, ?_, ?_, ?_, ?_, ?_, ?_, ?_, trivial⟩
          · intro a w' K hs' hdep hfr hK
            have f16 := hfr 16 (by decide)
            exact plan_do (by rfl) (plan_yield (i := 0) (V := fun _ _ v => v = (.slice (some ⟨g2, 0, none⟩) N c2 : Value)) (.slice (some ⟨g2, 0, none⟩) N c2) (by go_simp) rfl hK)
          · intro a w' K hs' hdep hfr hK
            have f17 := hfr 17 (by decide)
            exact plan_do (by rfl) (plan_yield (i := 1) (V := fun _ _ v => v = (.int .i64 (i : Int) : Value)) (.int .i64 (i : Int)) (by go_simp) rfl hK)
          · intro a w' K hs' hdep hfr hK
            have e97 : a.tmps[97]?.getD undef = (.slice (some ⟨g2, 0, none⟩) N c2) := hdep 0 (by decide) 97 rfl
            have e98 : a.tmps[98]?.getD undef = (.int .i64 (i : Int)) := hdep 1 (by decide) 98 rfl
            have hin : (i : Int) < (N : Int) := by have := HIL.out; omega
            exact plan_do (by rfl) (plan_yield (i := 2) (V := fun _ _ v => v = (.pointer (some ⟨g2, i * 53, none⟩) : Value)) (.pointer (some ⟨g2, i * 53, none⟩)) (by go_simp) rfl hK)
          · intro a w' K hs' hdep hfr hK
            have e99 : a.tmps[99]?.getD undef = (.pointer (some ⟨g2, i * 53, none⟩)) := hdep 2 (by decide) 99 rfl
            exact plan_do (by rfl) (wp_load_mid (P := Try.prog) 45 (.tmp 99) rfl g2 (i * 53) ((eval_tmp _ _).trans e99) (askM cA i y2 z2).cells _ (rangeW_same HRS.out hs') Try.underlying45 rfl (Try.sizeMsgOf (askM cA i y2 z2) rfl) (hK _ _ (Keeps.refl _ _) rfl))
          · intro a w' K hs' hdep hfr hK
            have f11 := hfr 11 (by decide)
            exact plan_do (by rfl) (plan_yield (i := 4) (V := fun _ _ v => v = (.slice (some ⟨g1, 0, none⟩) N c1 : Value)) (.slice (some ⟨g1, 0, none⟩) N c1) (by go_simp) rfl hK)
          · intro a w' K hs' hdep hfr hK
            have f17 := hfr 17 (by decide)
            exact plan_do (by rfl) (plan_yield (i := 5) (V := fun _ _ v => v = (.int .i64 (i : Int) : Value)) (.int .i64 (i : Int)) (by go_simp) rfl hK)
          · intro a w' K hs' hdep hfr hK
            have e101 : a.tmps[101]?.getD undef = (.slice (some ⟨g1, 0, none⟩) N c1) := hdep 4 (by decide) 101 rfl
            have e102 : a.tmps[102]?.getD undef = (.int .i64 (i : Int)) := hdep 5 (by decide) 102 rfl
            have hin : (i : Int) < (N : Int) := by have := HIL.out; omega
            exact plan_do (by rfl) (plan_yield (i := 6) (V := fun _ _ v => v = (.pointer (some ⟨g1, i * 53, none⟩) : Value)) (.pointer (some ⟨g1, i * 53, none⟩)) (by go_simp) rfl hK)
          · intro a w' K hs' hdep hfr hK
            have e103 : a.tmps[103]?.getD undef = (.pointer (some ⟨g1, i * 53, none⟩)) := hdep 6 (by decide) 103 rfl
            exact plan_do (by rfl) (wp_load_mid (P := Try.prog) 45 (.tmp 103) rfl g1 (i * 53) ((eval_tmp _ _).trans e103) (askM cA i y1 z1).cells _ (rangeW_same HRF.out hs') Try.underlying45 rfl (Try.sizeMsgOf (askM cA i y1 z1) rfl) (hK _ _ (Keeps.refl _ _) rfl))
          · intro a w' K hs' hdep hfr hK
            have e100 : a.tmps[100]?.getD undef = (.agg (askM cA i y2 z2).cells.toArray) := hdep 3 (by decide) 100 rfl
            have e104 : a.tmps[104]?.getD undef = (.agg (askM cA i y1 z1).cells.toArray) := hdep 7 (by decide) 104 rfl
            refine plan_do (by rfl) (plan_call 15 #[.agg (askM cA i y2 z2).cells.toArray, .agg (askM cA i y1 z1).cells.toArray] (by go_simp) ?_)
            refine (sameMsg0_any (askM cA i y2 z2) (askM cA i y1 z1) w' (HIS.out.same hs') (HIF.out.same hs') ⟨by simp [askM], by simp [askM], by simp [askM]⟩).mono fun e w'' ⟨b, he, hb, hk⟩ => ⟨_, he, hK _ _ hk ?_⟩
            cases b with
            | true => rfl
            | false => exact absurd (hb.2 (ask_eqv cA i y2 z2 y1 z1)) (by simp)
          · intro a w' K hs' hdep hfr hK
            have e105 : a.tmps[105]?.getD undef = (.bool true) := hdep 8 (by decide) 105 rfl
            exact plan_do (by rfl) (plan_yield (i := 9) (V := fun _ _ v => v = (.bool false : Value)) (.bool false) (by go_simp) rfl hK)
        intro a wz hkz hdef hsz hv hfr
        have e106 : a.tmps[106]?.getD undef = (.bool false) := hv 9 106 rfl
        have he := act_eq a _ [some 97, some 98, some 99, some 100, some 101, some 102, some 103, some 104, some 105, some 106] 111 rfl hsz hdef hfr (fun d => a.tmps[d]?.getD undef) (fun _ _ => rfl)
        obtain ⟨v97, h97⟩ : ∃ v, a.tmps[97]?.getD undef = v := ⟨_, rfl⟩
        obtain ⟨v98, h98⟩ : ∃ v, a.tmps[98]?.getD undef = v := ⟨_, rfl⟩
        obtain ⟨v99, h99⟩ : ∃ v, a.tmps[99]?.getD undef = v := ⟨_, rfl⟩
        obtain ⟨v100, h100⟩ : ∃ v, a.tmps[100]?.getD undef = v := ⟨_, rfl⟩
        obtain ⟨v101, h101⟩ : ∃ v, a.tmps[101]?.getD undef = v := ⟨_, rfl⟩
        obtain ⟨v102, h102⟩ : ∃ v, a.tmps[102]?.getD undef = v := ⟨_, rfl⟩
        obtain ⟨v103, h103⟩ : ∃ v, a.tmps[103]?.getD undef = v := ⟨_, rfl⟩
        obtain ⟨v104, h104⟩ : ∃ v, a.tmps[104]?.getD undef = v := ⟨_, rfl⟩
        obtain ⟨v105, h105⟩ : ∃ v, a.tmps[105]?.getD undef = v := ⟨_, rfl⟩
        simp only [putAll, e106, h97, h98, h99, h100, h101, h102, h103, h104, h105, List.setIfInBounds_toArray, List.set_cons_zero, List.set_cons_succ] at he
        clear e106 h97 h98 h99 h100 h101 h102 h103 h104 h105 hdef hsz hv hfr
        subst he
        have HSZ2 := Lib.hid (HSI.out.trans hkz (fun _ _ e => e))
        clear hkz
        go_wp2_with fail
        go_roundw
        case rel => exact ⟨i + 1, by have := HIL.out; omega, by go_num, HSZ2⟩
        case measure => have := HIL.out; simp [intOf]; omega
    have e3 : ((m.nr : Int) == 1) = true := by simp; omega
    clear p3
    have HEND := HK7
    go_wp2_with (first | (refine wpList_load_mid (by rfl) 45 _ (by rfl) mg (mf + j * 53) (by rfl) m.cells _ HR.out Try.underlying45 rfl HSZ.out ?_) | (refine wpList_store_row (by rfl) 45 _ _ (by rfl) wr.heap.size m.cells.toArray (by rfl) (by rfl) 45 zc HN7.out HSZ.out HZS.out m.cells_all ?_; rw [HW7.out]))
    go_roundw
    case rel =>
      first
        | exact ⟨j + 1, by have := HJ.out; omega, by go_num, HEND⟩
        | exact ⟨_, _, _, _, _, _, _, _, _, _, _, _, _, _, _, _, _, _, _, _, _, _, _, _, _, _, _, _, _, _, _, _, _, _, _, _, _, _, _, _, _, _, _, _, _, _, _, _, _, _, _, _, _, ⟨j + 1, by have := HJ.out; omega, by go_num⟩, rfl⟩
        | exact ⟨_, _, _, _, _, _, _, _, _, _, _, _, _, _, _, _, _, _, _, _, _, _, _, _, _, _, _, _, _, _, _, _, _, _, _, _, _, _, _, _, _, _, _, _, _, _, _, _, _, _, _, _, _, ⟨j + 1, by have := HJ.out; omega, by go_num, HEND⟩, rfl⟩
    case measure => have := HJ.out; simp [intOf]; omega

set_option maxRecDepth 100000 in
set_option maxHeartbeats 25600000 in
theorem again_neg (nodes : Int) (k f n : Int) (p t : ByteArray) (xo : Option Addr) (xc : Nat) (ds : List UInt8) (mo : Option Addr) (mcp : Nat) (ms : List Msg) (q1 : nodes < 0) (q2 : nodes ≤ 7) (w : World) (hx : Reads w (.slice xo ds.length xc) ds) (hm : MsgsAt w mo ms) : Calls Try.prog 5 #[.agg (opL k f n p t (.slice xo ds.length xc)).toArray, .slice mo ms.length mcp, .int .i64 nodes] w fun e w' => e = .returned (.bool true) ∧ Same w w' := by
  have hzm := Try.zeroMsgL
  have hza := Try.zeroAnsL
  have HX := Lib.hid hx
  have HM := Lib.hid hm
  have HBD : Hid (((0 : Nat) : Int) = max 0 (min (nodes) 7)) := Lib.hid (by omega)
  obtain ⟨zc, hzc⟩ : ∃ zc, fetchZ.cells.toArray = zc := ⟨_, rfl⟩
  have HZC : Hid (zc.size = 53) := Lib.hid (by rw [← hzc, List.size_toArray]; exact fetchZ.cells_length rfl)
  simp only [hzc] at hzm
  obtain ⟨w1, hw1⟩ : ∃ w1, w.alloc (.cells (opL k f n p t (.slice xo ds.length xc)).toArray 32) = w1 := ⟨_, rfl⟩
  have HK1 : Hid (Same w w1) := Lib.hid (by rw [← hw1]; exact (Keeps.refl _ _).alloc _)
  have HO1 : Hid (w1.heap[w.heap.size]? = some (.cells (opL k f n p t (.slice xo ds.length xc)).toArray 32 (0, 0))) := Lib.hid (by rw [← hw1]; exact heap_alloc_new w _)
  clear hx hm hzc
  go_enter Try.func5, Try.ntmps5
  go_wp2_with fail
  ((with_reducible refine (speaks25 w1).mono ?_); rintro e w2 ⟨rfl, hk2⟩)
  have HK2 := Lib.hid (HK1.out.trans hk2 (fun _ _ e => e))
  have HO2 : Hid (w2.heap[w.heap.size]? = some (.cells (opL k f n p t (.slice xo ds.length xc)).toArray 32 (0, 0))) := Lib.hid (hk2.obj HO1.out (fun e => e))
  have HGR : Hid (Calls Try.prog 9 #[.agg (opL k f n p t (.slice xo ds.length xc)).toArray] w2 fun e w' => (∃ b, e = .returned (.bool b)) ∧ Same w2 w') := Lib.hid ((great_op k f n p t xo ds.length xc w2).mono fun e w' ⟨he, hk⟩ => ⟨⟨_, he⟩, hk⟩)
  clear hk2 hw1
  go_wp2_with (refine wpList_load_row (by rfl) 32 _ (by rfl) w.heap.size (by rfl) 32 (opL k f n p t (.slice xo ds.length xc)).toArray (0, 0) _ HO2.out Try.underlying32 rfl (by exact Try.sizeOpW) ?_)
  ((with_reducible refine HGR.out.mono ?_); rintro e w3 ⟨⟨b, rfl⟩, hk3⟩)
  have HK3 := Lib.hid (HK2.out.trans hk3 (fun _ _ e => e))
  have HO3 : Hid (w3.heap[w.heap.size]? = some (.cells (opL k f n p t (.slice xo ds.length xc)).toArray 32 (0, 0))) := Lib.hid (hk3.obj HO2.out (fun e => e))
  clear hk3 HGR
  cases b with
  | true =>
    go_wp2_with fail
    go_ret
    exact ⟨rfl, HK3.out⟩
  | false =>
  by_cases ql : (20 : Int) < (ms.length : Int)
  · go_wp2_with fail
    go_ret
    exact ⟨rfl, HK3.out⟩
  have HNW := Lib.hid (new_any 2 (by omega) (by omega) w3)
  go_wp2_with fail
  ((with_reducible refine HNW.out.mono ?_); rintro e w4 ⟨B, rfl, hc4, hB, hk4⟩)
  have HC4 := Lib.hid hc4
  have HB : Hid (w.heap.size ≤ B ∧ w.heap.size < w3.heap.size ∧ w3.heap.size ≤ B) := Lib.hid (by have := HK3.out.size; have := lt_of_block HO3.out; omega)
  have HK4 := Lib.hid (HK3.out.trans hk4 (fun _ _ e => e))
  have HO4 : Hid (w4.heap[w.heap.size]? = some (.cells (opL k f n p t (.slice xo ds.length xc)).toArray 32 (0, 0))) := Lib.hid (hk4.obj HO3.out (fun e => e))
  have HX4 := Lib.hid (HX.out.same HK4.out)
  have HOF : Hid (∀ m : Msg, MsgIn w m → m.Off B) := Lib.hid (fun m h => h.off HB.out.1)
  clear hc4 hB hk4
  by_cases hr : OpRight k f n p t ds.length
  case neg =>
    have HCL := Lib.hid (call_wrong B (cl0 2) k f n p t (.slice xo ds.length xc) ds w4 HC4.out rfl HX4.out hr)
    clear hr
    go_wp2_with (refine wpList_load_row (by rfl) 32 _ (by rfl) w.heap.size (by rfl) 32 (opL k f n p t (.slice xo ds.length xc)).toArray (0, 0) _ HO4.out Try.underlying32 rfl (by exact Try.sizeOpW) ?_)
    ((with_reducible refine HCL.out.mono ?_); rintro e w5 ⟨rfl, hk5⟩)
    have HK5 := Lib.hid (HK4.out.trans hk5 (fun _ _ e => e))
    have HC5 := Lib.hid (HC4.out.same hk5)
    have HWC := Lib.hid (waits_at B (cl0 2) false w5 HC5.out rfl)
    clear hk5 HCL
    go_wp2_with fail
    ((with_reducible refine HWC.out.mono ?_); rintro e w6 ⟨rfl, hk6⟩)
    have HK6 := Lib.hid (HK5.out.trans hk6 (fun _ _ e => e))
    have HAK := Lib.hid (asked_rest B (cl0 2) (nodes) w6 (HC5.out.same hk6) rfl)
    clear hk6
    go_wp2_with fail
    ((with_reducible refine HAK.out.mono ?_); rintro e w7 ⟨⟨ox, cx, rfl⟩, hk7⟩)
    have HK7 := Lib.hid (HK6.out.trans hk7 (fun _ _ e => e))
    clear hk7
    go_wp2_with fail
    go_ret
    exact ⟨rfl, HK7.out⟩
  have HCL := Lib.hid (call_right B (cl0 2) k f n p t (.slice xo ds.length xc) ds w4 HC4.out rfl (by simp [cl0]) HX4.out (fun a n' c' e h0 => by
    simp only [Value.slice.injEq] at e
    have h1 := reads_low HX.out a e.1 h0
    have h2 := HB.out
    omega) hr)
  unfold CallPost at HCL
  clear hr
  go_wp2_with (refine wpList_load_row (by rfl) 32 _ (by rfl) w.heap.size (by rfl) 32 (opL k f n p t (.slice xo ds.length xc)).toArray (0, 0) _ HO4.out Try.underlying32 rfl (by exact Try.sizeOpW) ?_)
  ((with_reducible refine HCL.out.mono ?_); rintro e w5 ⟨rfl, hk5, yo, yc, hc5⟩)
  have hcn : (((cl0 2).nr : Int) + 1) = 1 := rfl
  rw [hcn]
  have HK5 := Lib.hid (keepsB HB.out.1 HK4.out hk5)
  have HC5 := Lib.hid hc5
  have HFA : Hid (((cl0 2).asks k f n p t yo yc ds).wt = true ∧ ((cl0 2).asks k f n p t yo yc ds).nr = 1 ∧ ((cl0 2).asks k f n p t yo yc ds).id = 2) := Lib.hid ⟨rfl, by simp [Cl.asks, cl0], by simp [Cl.asks, cl0]⟩
  obtain ⟨cA, hcA⟩ : ∃ x, (cl0 2).asks k f n p t yo yc ds = x := ⟨_, rfl⟩
  rw [hcA] at HFA HC5
  have HAK := Lib.hid (asked_at B cA (nodes) (0) HBD.out w5 HC5.out HFA.out.1 (by have := HFA.out.2.2; omega))
  unfold AskAt at HAK
  clear hk5 hc5 hcA HCL hcn
  go_wp2_with fail
  ((with_reducible refine HAK.out.mono ?_); rintro e wf ⟨o1, c1, fs, rfl, hm1, ha1, hl1, hkf⟩)
  have HKF := Lib.hid (HK5.out.trans hkf (fun _ _ e => e))
  have HCF := Lib.hid (HC5.out.same hkf)
  have HM1 := Lib.hid hm1
  have HA1 := Lib.hid ha1
  have HL1 := Lib.hid hl1
  clear hkf hm1 ha1 hl1 HAK
  have hmin : min nodes 7 = nodes := by omega
  have hmax : max 0 nodes = 0 := by omega
  go_wp2_with fail
  clear hmin hmax
  go_loopw [62] (fun i wr => ∃ j : Nat, j ≤ ms.length ∧ i = .int .i64 j ∧ Hid (Same wf wr)) (fun i _ => ms.length - (intOf i).toNat)
  case atStart => exact ⟨0, by omega, rfl, Lib.hid (Keeps.refl _ _)⟩
  case round =>
    obtain ⟨j, hj, rfl, HS⟩ := hrel
    by_cases hlt : j < ms.length
    case neg =>
      obtain rfl : j = ms.length := by omega
      have hjn : ¬ (ms.length : Int) < (ms.length : Int) := by omega
      have HWC := Lib.hid (waits_at B cA true wr (HCF.out.same HS.out) HFA.out.1)
      go_wp2_with fail
      ((with_reducible refine HWC.out.mono ?_); rintro e w6 ⟨rfl, hk6⟩)
      have HK6 := Lib.hid ((HKF.out.trans HS.out (fun _ _ e => e)).trans hk6 (fun _ _ e => e))
      clear hk6
      go_wp2_with fail
      go_ret
      exact ⟨rfl, HK6.out⟩
    have hjn : (j : Int) < (ms.length : Int) := by omega
    have HJ := Lib.hid hlt
    have HSR := Lib.hid (HKF.out.trans HS.out (fun _ _ e => e))
    have hjl : ((j : Int) < 21) := by omega
    obtain ⟨mg, mf, hme, hmr, hmi⟩ := (HM.out.same HSR.out).at (j := j) (by omega)
    subst hme
    obtain ⟨m, hmm⟩ : ∃ x, ms[j]'(by omega) = x := ⟨_, rfl⟩
    have hmw : MsgIn w m := by
      obtain ⟨_, _, _, _, h⟩ := HM.out.at (j := j) (by omega)
      rwa [show ms[j]'(by omega) = m from hmm] at h
    rw [hmm] at hmr hmi
    have HR := Lib.hid hmr
    have HMI := Lib.hid hmi
    have HMW := Lib.hid hmw
    have HSZ := Lib.hid (Try.sizeMsgOf m hmi.hd)
    obtain ⟨w7, hw7⟩ : ∃ w7, (wr.alloc (.cells zc 45)).setRow wr.heap.size m.cells.toArray = w7 := ⟨_, rfl⟩
    have HW7 := Lib.hid hw7
    have hk7 : Same wr w7 := by rw [← hw7]; exact ((Keeps.refl (fun _ => False) _).alloc _).setRow _ _ (.inl (Nat.le_refl _))
    have HN7 : Hid ((wr.alloc (.cells zc 45)).heap[wr.heap.size]? = some (.cells zc 45 (0, 0))) := Lib.hid (heap_alloc_new wr _)
    have HR7 : Hid (w7.heap[wr.heap.size]? = some (.cells m.cells.toArray 45 (0, 0))) := Lib.hid (by rw [← hw7]; exact setRow_heap _ _ _ _ _ (0, 0) (heap_alloc_new wr _))
    have HMA7 : Hid (MsgAt w7 wr.heap.size m) := Lib.hid ⟨HR7.out, hmi.hd⟩
    have HZS : Hid (zc.size = m.cells.toArray.size) := Lib.hid (by rw [HZC.out, List.size_toArray, m.cells_length hmi.hd])
    have HK7 := Lib.hid (HS.out.trans hk7 (fun _ _ e => e))
    have HTK := Lib.hid (take_any B cA m w7 (HCF.out.same HK7.out) (HMI.out.same hk7) (HOF.out m hmw))
    unfold TakePost at HTK
    have a0 : w7.cell? ⟨wr.heap.size, 0, none⟩ = some (.int .i64 m.k) := HMA7.out.low 0 _ (by omega) rfl
    have a39 : w7.cell? ⟨wr.heap.size, 39, none⟩ = some (.int .i64 m.cl) := HMA7.out.high 0 39 _ rfl rfl
    have a40 : w7.cell? ⟨wr.heap.size, 40, none⟩ = some (.int .u64 (m.nr : Int)) := HMA7.out.high 1 40 _ rfl rfl
    clear hmr hmi hmw hmm hk7 hw7 hj hlt
    by_cases p1 : m.k = 2
    case neg =>
      have HP := Lib.hid p1
      have e1 : (m.k == 2) = false := by simpa using p1
      clear p1
      go_wp2_with (first | (refine wpList_load_mid (by rfl) 45 _ (by rfl) mg (mf + j * 53) (by rfl) m.cells _ HR.out Try.underlying45 rfl HSZ.out ?_) | (refine wpList_store_row (by rfl) 45 _ _ (by rfl) wr.heap.size m.cells.toArray (by rfl) (by rfl) 45 zc HN7.out HSZ.out HZS.out m.cells_all ?_; rw [HW7.out]) | (refine wpList_load_row (by rfl) 45 _ (by rfl) wr.heap.size (by rfl) 45 m.cells.toArray (0, 0) _ HR7.out Try.underlying45 rfl HSZ.out ?_))
      ((with_reducible refine HTK.out.mono ?_); rintro e w8 hr)
      rcases hr with ⟨hyes, _⟩ | ⟨_, rfl, hk8⟩
      · exact absurd hyes.2.1 HP.out
      obtain ⟨w9, hw9⟩ : ∃ w9, (w8.alloc (.cells ansL0.toArray 41)).setRow w8.heap.size ansL0.toArray = w9 := ⟨_, rfl⟩
      have HW9 := Lib.hid hw9
      have HN9 : Hid ((w8.alloc (.cells ansL0.toArray 41)).heap[w8.heap.size]? = some (.cells ansL0.toArray 41 (0, 0))) := Lib.hid (heap_alloc_new w8 _)
      have hk9 : Same w8 w9 := by rw [← hw9]; exact ((Keeps.refl (fun _ => False) _).alloc _).setRow _ _ (.inl (Nat.le_refl _))
      have HK9 := Lib.hid ((HK7.out.trans hk8 (fun _ _ e => e)).trans hk9 (fun _ _ e => e))
      have HAK := Lib.hid (asked_at B cA (nodes) (0) HBD.out w9 (HCF.out.same HK9.out) HFA.out.1 (by have := HFA.out.2.2; omega))
      unfold AskAt at HAK
      clear hk8 hk9 hw9 HTK a0 a39 a40
      go_wp2_with (refine wpList_store_row (by rfl) 41 _ _ (by rfl) w8.heap.size ansL0.toArray (by rfl) (by rfl) 41 ansL0.toArray HN9.out (by exact Try.sizeAnsW) rfl (ansL_all _ _ _ _ _ _ _ _) ?_; rw [HW9.out])
      ((with_reducible refine HAK.out.mono ?_); rintro e ws ⟨o2, c2, ss, rfl, hm2, ha2, hl2, hks⟩)
      have HKS := Lib.hid (HK9.out.trans hks (fun _ _ e => e))
      have HM2 := Lib.hid hm2
      have HA2 := Lib.hid ha2
      have HL2 := Lib.hid hl2
      clear hks hm2 ha2 hl2 HAK
      go_wp2_with fail
      go_loopw [94] (fun v wq => ∃ i : Nat, i ≤ 0 ∧ v = .int .i64 i ∧ Hid (Same ws wq)) (fun v _ => 0 - (intOf v).toNat)
      case atStart => exact ⟨0, by omega, rfl, Lib.hid (Keeps.refl _ _)⟩
      case round =>
        obtain ⟨i, hi, rfl, HSI⟩ := hrel
        have HEND := Lib.hid (HKS.out.trans HSI.out (fun _ _ e => e))
        by_cases hil : i < 0
        case neg =>
          have hin : ¬ (i : Int) < 0 := by omega
          go_wp2_with fail
          go_roundw
          case rel =>
            first
              | exact ⟨j + 1, by have := HJ.out; omega, by go_num, HEND⟩
              | exact ⟨_, _, _, _, _, _, _, ⟨j + 1, by have := HJ.out; omega, by go_num⟩, rfl, rfl, rfl, rfl, rfl, rfl, rfl⟩
              | exact ⟨_, _, _, _, _, _, _, ⟨j + 1, by have := HJ.out; omega, by go_num, HEND⟩, rfl, rfl, rfl, rfl, rfl, rfl, rfl⟩
          case measure => have := HJ.out; simp [intOf]; omega
        exact absurd hil (by omega)
    have e1 : (m.k == 2) = true := by simpa using p1
    clear p1
    by_cases p2 : m.cl = 2
    case neg =>
      have HP := Lib.hid p2
      have e2 : (m.cl == 2) = false := by simpa using p2
      clear p2
      go_wp2_with (first | (refine wpList_load_mid (by rfl) 45 _ (by rfl) mg (mf + j * 53) (by rfl) m.cells _ HR.out Try.underlying45 rfl HSZ.out ?_) | (refine wpList_store_row (by rfl) 45 _ _ (by rfl) wr.heap.size m.cells.toArray (by rfl) (by rfl) 45 zc HN7.out HSZ.out HZS.out m.cells_all ?_; rw [HW7.out]) | (refine wpList_load_row (by rfl) 45 _ (by rfl) wr.heap.size (by rfl) 45 m.cells.toArray (0, 0) _ HR7.out Try.underlying45 rfl HSZ.out ?_))
      ((with_reducible refine HTK.out.mono ?_); rintro e w8 hr)
      rcases hr with ⟨hyes, _⟩ | ⟨_, rfl, hk8⟩
      · exact absurd (hyes.2.2.2.1.trans HFA.out.2.2) HP.out
      obtain ⟨w9, hw9⟩ : ∃ w9, (w8.alloc (.cells ansL0.toArray 41)).setRow w8.heap.size ansL0.toArray = w9 := ⟨_, rfl⟩
      have HW9 := Lib.hid hw9
      have HN9 : Hid ((w8.alloc (.cells ansL0.toArray 41)).heap[w8.heap.size]? = some (.cells ansL0.toArray 41 (0, 0))) := Lib.hid (heap_alloc_new w8 _)
      have hk9 : Same w8 w9 := by rw [← hw9]; exact ((Keeps.refl (fun _ => False) _).alloc _).setRow _ _ (.inl (Nat.le_refl _))
      have HK9 := Lib.hid ((HK7.out.trans hk8 (fun _ _ e => e)).trans hk9 (fun _ _ e => e))
      have HAK := Lib.hid (asked_at B cA (nodes) (0) HBD.out w9 (HCF.out.same HK9.out) HFA.out.1 (by have := HFA.out.2.2; omega))
      unfold AskAt at HAK
      clear hk8 hk9 hw9 HTK a0 a39 a40
      go_wp2_with (refine wpList_store_row (by rfl) 41 _ _ (by rfl) w8.heap.size ansL0.toArray (by rfl) (by rfl) 41 ansL0.toArray HN9.out (by exact Try.sizeAnsW) rfl (ansL_all _ _ _ _ _ _ _ _) ?_; rw [HW9.out])
      ((with_reducible refine HAK.out.mono ?_); rintro e ws ⟨o2, c2, ss, rfl, hm2, ha2, hl2, hks⟩)
      have HKS := Lib.hid (HK9.out.trans hks (fun _ _ e => e))
      have HM2 := Lib.hid hm2
      have HA2 := Lib.hid ha2
      have HL2 := Lib.hid hl2
      clear hks hm2 ha2 hl2 HAK
      go_wp2_with fail
      go_loopw [94] (fun v wq => ∃ i : Nat, i ≤ 0 ∧ v = .int .i64 i ∧ Hid (Same ws wq)) (fun v _ => 0 - (intOf v).toNat)
      case atStart => exact ⟨0, by omega, rfl, Lib.hid (Keeps.refl _ _)⟩
      case round =>
        obtain ⟨i, hi, rfl, HSI⟩ := hrel
        have HEND := Lib.hid (HKS.out.trans HSI.out (fun _ _ e => e))
        by_cases hil : i < 0
        case neg =>
          have hin : ¬ (i : Int) < 0 := by omega
          go_wp2_with fail
          go_roundw
          case rel =>
            first
              | exact ⟨j + 1, by have := HJ.out; omega, by go_num, HEND⟩
              | exact ⟨_, _, _, _, _, _, _, ⟨j + 1, by have := HJ.out; omega, by go_num⟩, rfl, rfl, rfl, rfl, rfl, rfl, rfl⟩
              | exact ⟨_, _, _, _, _, _, _, ⟨j + 1, by have := HJ.out; omega, by go_num, HEND⟩, rfl, rfl, rfl, rfl, rfl, rfl, rfl⟩
          case measure => have := HJ.out; simp [intOf]; omega
        exact absurd hil (by omega)
    have e2 : (m.cl == 2) = true := by simpa using p2
    clear p2
    by_cases p3 : m.nr = 1
    case neg =>
      have HP := Lib.hid p3
      have e3 : ((m.nr : Int) == 1) = false := by simp; omega
      clear p3
      go_wp2_with (first | (refine wpList_load_mid (by rfl) 45 _ (by rfl) mg (mf + j * 53) (by rfl) m.cells _ HR.out Try.underlying45 rfl HSZ.out ?_) | (refine wpList_store_row (by rfl) 45 _ _ (by rfl) wr.heap.size m.cells.toArray (by rfl) (by rfl) 45 zc HN7.out HSZ.out HZS.out m.cells_all ?_; rw [HW7.out]) | (refine wpList_load_row (by rfl) 45 _ (by rfl) wr.heap.size (by rfl) 45 m.cells.toArray (0, 0) _ HR7.out Try.underlying45 rfl HSZ.out ?_))
      ((with_reducible refine HTK.out.mono ?_); rintro e w8 hr)
      rcases hr with ⟨hyes, _⟩ | ⟨_, rfl, hk8⟩
      · exact absurd (hyes.2.2.2.2.trans HFA.out.2.1) HP.out
      obtain ⟨w9, hw9⟩ : ∃ w9, (w8.alloc (.cells ansL0.toArray 41)).setRow w8.heap.size ansL0.toArray = w9 := ⟨_, rfl⟩
      have HW9 := Lib.hid hw9
      have HN9 : Hid ((w8.alloc (.cells ansL0.toArray 41)).heap[w8.heap.size]? = some (.cells ansL0.toArray 41 (0, 0))) := Lib.hid (heap_alloc_new w8 _)
      have hk9 : Same w8 w9 := by rw [← hw9]; exact ((Keeps.refl (fun _ => False) _).alloc _).setRow _ _ (.inl (Nat.le_refl _))
      have HK9 := Lib.hid ((HK7.out.trans hk8 (fun _ _ e => e)).trans hk9 (fun _ _ e => e))
      have HAK := Lib.hid (asked_at B cA (nodes) (0) HBD.out w9 (HCF.out.same HK9.out) HFA.out.1 (by have := HFA.out.2.2; omega))
      unfold AskAt at HAK
      clear hk8 hk9 hw9 HTK a0 a39 a40
      go_wp2_with (refine wpList_store_row (by rfl) 41 _ _ (by rfl) w8.heap.size ansL0.toArray (by rfl) (by rfl) 41 ansL0.toArray HN9.out (by exact Try.sizeAnsW) rfl (ansL_all _ _ _ _ _ _ _ _) ?_; rw [HW9.out])
      ((with_reducible refine HAK.out.mono ?_); rintro e ws ⟨o2, c2, ss, rfl, hm2, ha2, hl2, hks⟩)
      have HKS := Lib.hid (HK9.out.trans hks (fun _ _ e => e))
      have HM2 := Lib.hid hm2
      have HA2 := Lib.hid ha2
      have HL2 := Lib.hid hl2
      clear hks hm2 ha2 hl2 HAK
      go_wp2_with fail
      go_loopw [94] (fun v wq => ∃ i : Nat, i ≤ 0 ∧ v = .int .i64 i ∧ Hid (Same ws wq)) (fun v _ => 0 - (intOf v).toNat)
      case atStart => exact ⟨0, by omega, rfl, Lib.hid (Keeps.refl _ _)⟩
      case round =>
        obtain ⟨i, hi, rfl, HSI⟩ := hrel
        have HEND := Lib.hid (HKS.out.trans HSI.out (fun _ _ e => e))
        by_cases hil : i < 0
        case neg =>
          have hin : ¬ (i : Int) < 0 := by omega
          go_wp2_with fail
          go_roundw
          case rel =>
            first
              | exact ⟨j + 1, by have := HJ.out; omega, by go_num, HEND⟩
              | exact ⟨_, _, _, _, _, _, _, ⟨j + 1, by have := HJ.out; omega, by go_num⟩, rfl, rfl, rfl, rfl, rfl, rfl, rfl⟩
              | exact ⟨_, _, _, _, _, _, _, ⟨j + 1, by have := HJ.out; omega, by go_num, HEND⟩, rfl, rfl, rfl, rfl, rfl, rfl, rfl⟩
          case measure => have := HJ.out; simp [intOf]; omega
        exact absurd hil (by omega)
    have e3 : ((m.nr : Int) == 1) = true := by simp; omega
    clear p3
    have HEND := HK7
    go_wp2_with (first | (refine wpList_load_mid (by rfl) 45 _ (by rfl) mg (mf + j * 53) (by rfl) m.cells _ HR.out Try.underlying45 rfl HSZ.out ?_) | (refine wpList_store_row (by rfl) 45 _ _ (by rfl) wr.heap.size m.cells.toArray (by rfl) (by rfl) 45 zc HN7.out HSZ.out HZS.out m.cells_all ?_; rw [HW7.out]))
    go_roundw
    case rel =>
      first
        | exact ⟨j + 1, by have := HJ.out; omega, by go_num, HEND⟩
        | exact ⟨_, _, _, _, _, _, _, _, _, _, _, _, _, _, _, _, _, _, _, _, _, _, _, _, _, _, _, _, _, _, _, _, _, _, _, _, _, _, _, _, _, _, _, _, _, _, _, _, _, _, _, _, _, ⟨j + 1, by have := HJ.out; omega, by go_num⟩, rfl⟩
        | exact ⟨_, _, _, _, _, _, _, _, _, _, _, _, _, _, _, _, _, _, _, _, _, _, _, _, _, _, _, _, _, _, _, _, _, _, _, _, _, _, _, _, _, _, _, _, _, _, _, _, _, _, _, _, _, ⟨j + 1, by have := HJ.out; omega, by go_num, HEND⟩, rfl⟩
    case measure => have := HJ.out; simp [intOf]; omega

set_option maxRecDepth 100000 in
set_option maxHeartbeats 25600000 in
theorem again_big (nodes : Int) (k f n : Int) (p t : ByteArray) (xo : Option Addr) (xc : Nat) (ds : List UInt8) (mo : Option Addr) (mcp : Nat) (ms : List Msg) (q1 : ¬ nodes < 0) (q2 : ¬ nodes ≤ 7) (w : World) (hx : Reads w (.slice xo ds.length xc) ds) (hm : MsgsAt w mo ms) : Calls Try.prog 5 #[.agg (opL k f n p t (.slice xo ds.length xc)).toArray, .slice mo ms.length mcp, .int .i64 nodes] w fun e w' => e = .returned (.bool true) ∧ Same w w' := by
  have hzm := Try.zeroMsgL
  have hza := Try.zeroAnsL
  have HX := Lib.hid hx
  have HM := Lib.hid hm
  have HBD : Hid (((7 : Nat) : Int) = max 0 (min (nodes) 7)) := Lib.hid (by omega)
  obtain ⟨zc, hzc⟩ : ∃ zc, fetchZ.cells.toArray = zc := ⟨_, rfl⟩
  have HZC : Hid (zc.size = 53) := Lib.hid (by rw [← hzc, List.size_toArray]; exact fetchZ.cells_length rfl)
  simp only [hzc] at hzm
  obtain ⟨w1, hw1⟩ : ∃ w1, w.alloc (.cells (opL k f n p t (.slice xo ds.length xc)).toArray 32) = w1 := ⟨_, rfl⟩
  have HK1 : Hid (Same w w1) := Lib.hid (by rw [← hw1]; exact (Keeps.refl _ _).alloc _)
  have HO1 : Hid (w1.heap[w.heap.size]? = some (.cells (opL k f n p t (.slice xo ds.length xc)).toArray 32 (0, 0))) := Lib.hid (by rw [← hw1]; exact heap_alloc_new w _)
  clear hx hm hzc
  go_enter Try.func5, Try.ntmps5
  go_wp2_with fail
  ((with_reducible refine (speaks25 w1).mono ?_); rintro e w2 ⟨rfl, hk2⟩)
  have HK2 := Lib.hid (HK1.out.trans hk2 (fun _ _ e => e))
  have HO2 : Hid (w2.heap[w.heap.size]? = some (.cells (opL k f n p t (.slice xo ds.length xc)).toArray 32 (0, 0))) := Lib.hid (hk2.obj HO1.out (fun e => e))
  have HGR : Hid (Calls Try.prog 9 #[.agg (opL k f n p t (.slice xo ds.length xc)).toArray] w2 fun e w' => (∃ b, e = .returned (.bool b)) ∧ Same w2 w') := Lib.hid ((great_op k f n p t xo ds.length xc w2).mono fun e w' ⟨he, hk⟩ => ⟨⟨_, he⟩, hk⟩)
  clear hk2 hw1
  go_wp2_with (refine wpList_load_row (by rfl) 32 _ (by rfl) w.heap.size (by rfl) 32 (opL k f n p t (.slice xo ds.length xc)).toArray (0, 0) _ HO2.out Try.underlying32 rfl (by exact Try.sizeOpW) ?_)
  ((with_reducible refine HGR.out.mono ?_); rintro e w3 ⟨⟨b, rfl⟩, hk3⟩)
  have HK3 := Lib.hid (HK2.out.trans hk3 (fun _ _ e => e))
  have HO3 : Hid (w3.heap[w.heap.size]? = some (.cells (opL k f n p t (.slice xo ds.length xc)).toArray 32 (0, 0))) := Lib.hid (hk3.obj HO2.out (fun e => e))
  clear hk3 HGR
  cases b with
  | true =>
    go_wp2_with fail
    go_ret
    exact ⟨rfl, HK3.out⟩
  | false =>
  by_cases ql : (20 : Int) < (ms.length : Int)
  · go_wp2_with fail
    go_ret
    exact ⟨rfl, HK3.out⟩
  have HNW := Lib.hid (new_any 2 (by omega) (by omega) w3)
  go_wp2_with fail
  ((with_reducible refine HNW.out.mono ?_); rintro e w4 ⟨B, rfl, hc4, hB, hk4⟩)
  have HC4 := Lib.hid hc4
  have HB : Hid (w.heap.size ≤ B ∧ w.heap.size < w3.heap.size ∧ w3.heap.size ≤ B) := Lib.hid (by have := HK3.out.size; have := lt_of_block HO3.out; omega)
  have HK4 := Lib.hid (HK3.out.trans hk4 (fun _ _ e => e))
  have HO4 : Hid (w4.heap[w.heap.size]? = some (.cells (opL k f n p t (.slice xo ds.length xc)).toArray 32 (0, 0))) := Lib.hid (hk4.obj HO3.out (fun e => e))
  have HX4 := Lib.hid (HX.out.same HK4.out)
  have HOF : Hid (∀ m : Msg, MsgIn w m → m.Off B) := Lib.hid (fun m h => h.off HB.out.1)
  clear hc4 hB hk4
  by_cases hr : OpRight k f n p t ds.length
  case neg =>
    have HCL := Lib.hid (call_wrong B (cl0 2) k f n p t (.slice xo ds.length xc) ds w4 HC4.out rfl HX4.out hr)
    clear hr
    go_wp2_with (refine wpList_load_row (by rfl) 32 _ (by rfl) w.heap.size (by rfl) 32 (opL k f n p t (.slice xo ds.length xc)).toArray (0, 0) _ HO4.out Try.underlying32 rfl (by exact Try.sizeOpW) ?_)
    ((with_reducible refine HCL.out.mono ?_); rintro e w5 ⟨rfl, hk5⟩)
    have HK5 := Lib.hid (HK4.out.trans hk5 (fun _ _ e => e))
    have HC5 := Lib.hid (HC4.out.same hk5)
    have HWC := Lib.hid (waits_at B (cl0 2) false w5 HC5.out rfl)
    clear hk5 HCL
    go_wp2_with fail
    ((with_reducible refine HWC.out.mono ?_); rintro e w6 ⟨rfl, hk6⟩)
    have HK6 := Lib.hid (HK5.out.trans hk6 (fun _ _ e => e))
    have HAK := Lib.hid (asked_rest B (cl0 2) (nodes) w6 (HC5.out.same hk6) rfl)
    clear hk6
    go_wp2_with fail
    ((with_reducible refine HAK.out.mono ?_); rintro e w7 ⟨⟨ox, cx, rfl⟩, hk7⟩)
    have HK7 := Lib.hid (HK6.out.trans hk7 (fun _ _ e => e))
    clear hk7
    go_wp2_with fail
    go_ret
    exact ⟨rfl, HK7.out⟩
  have HCL := Lib.hid (call_right B (cl0 2) k f n p t (.slice xo ds.length xc) ds w4 HC4.out rfl (by simp [cl0]) HX4.out (fun a n' c' e h0 => by
    simp only [Value.slice.injEq] at e
    have h1 := reads_low HX.out a e.1 h0
    have h2 := HB.out
    omega) hr)
  unfold CallPost at HCL
  clear hr
  go_wp2_with (refine wpList_load_row (by rfl) 32 _ (by rfl) w.heap.size (by rfl) 32 (opL k f n p t (.slice xo ds.length xc)).toArray (0, 0) _ HO4.out Try.underlying32 rfl (by exact Try.sizeOpW) ?_)
  ((with_reducible refine HCL.out.mono ?_); rintro e w5 ⟨rfl, hk5, yo, yc, hc5⟩)
  have hcn : (((cl0 2).nr : Int) + 1) = 1 := rfl
  rw [hcn]
  have HK5 := Lib.hid (keepsB HB.out.1 HK4.out hk5)
  have HC5 := Lib.hid hc5
  have HFA : Hid (((cl0 2).asks k f n p t yo yc ds).wt = true ∧ ((cl0 2).asks k f n p t yo yc ds).nr = 1 ∧ ((cl0 2).asks k f n p t yo yc ds).id = 2) := Lib.hid ⟨rfl, by simp [Cl.asks, cl0], by simp [Cl.asks, cl0]⟩
  obtain ⟨cA, hcA⟩ : ∃ x, (cl0 2).asks k f n p t yo yc ds = x := ⟨_, rfl⟩
  rw [hcA] at HFA HC5
  have HAK := Lib.hid (asked_at B cA (nodes) (7) HBD.out w5 HC5.out HFA.out.1 (by have := HFA.out.2.2; omega))
  unfold AskAt at HAK
  clear hk5 hc5 hcA HCL hcn
  go_wp2_with fail
  ((with_reducible refine HAK.out.mono ?_); rintro e wf ⟨o1, c1, fs, rfl, hm1, ha1, hl1, hkf⟩)
  have HKF := Lib.hid (HK5.out.trans hkf (fun _ _ e => e))
  have HCF := Lib.hid (HC5.out.same hkf)
  have HM1 := Lib.hid hm1
  have HA1 := Lib.hid ha1
  have HL1 := Lib.hid hl1
  clear hkf hm1 ha1 hl1 HAK
  have hmin : min nodes 7 = 7 := by omega
  have hmax : (max 0 7 : Int) = 7 := by omega
  go_wp2_with fail
  clear hmin hmax
  go_loopw [62] (fun i wr => ∃ j : Nat, j ≤ ms.length ∧ i = .int .i64 j ∧ Hid (Same wf wr)) (fun i _ => ms.length - (intOf i).toNat)
  case atStart => exact ⟨0, by omega, rfl, Lib.hid (Keeps.refl _ _)⟩
  case round =>
    obtain ⟨j, hj, rfl, HS⟩ := hrel
    by_cases hlt : j < ms.length
    case neg =>
      obtain rfl : j = ms.length := by omega
      have hjn : ¬ (ms.length : Int) < (ms.length : Int) := by omega
      have HWC := Lib.hid (waits_at B cA true wr (HCF.out.same HS.out) HFA.out.1)
      go_wp2_with fail
      ((with_reducible refine HWC.out.mono ?_); rintro e w6 ⟨rfl, hk6⟩)
      have HK6 := Lib.hid ((HKF.out.trans HS.out (fun _ _ e => e)).trans hk6 (fun _ _ e => e))
      clear hk6
      go_wp2_with fail
      go_ret
      exact ⟨rfl, HK6.out⟩
    have hjn : (j : Int) < (ms.length : Int) := by omega
    have HJ := Lib.hid hlt
    have HSR := Lib.hid (HKF.out.trans HS.out (fun _ _ e => e))
    have hjl : ((j : Int) < 21) := by omega
    obtain ⟨mg, mf, hme, hmr, hmi⟩ := (HM.out.same HSR.out).at (j := j) (by omega)
    subst hme
    obtain ⟨m, hmm⟩ : ∃ x, ms[j]'(by omega) = x := ⟨_, rfl⟩
    have hmw : MsgIn w m := by
      obtain ⟨_, _, _, _, h⟩ := HM.out.at (j := j) (by omega)
      rwa [show ms[j]'(by omega) = m from hmm] at h
    rw [hmm] at hmr hmi
    have HR := Lib.hid hmr
    have HMI := Lib.hid hmi
    have HMW := Lib.hid hmw
    have HSZ := Lib.hid (Try.sizeMsgOf m hmi.hd)
    obtain ⟨w7, hw7⟩ : ∃ w7, (wr.alloc (.cells zc 45)).setRow wr.heap.size m.cells.toArray = w7 := ⟨_, rfl⟩
    have HW7 := Lib.hid hw7
    have hk7 : Same wr w7 := by rw [← hw7]; exact ((Keeps.refl (fun _ => False) _).alloc _).setRow _ _ (.inl (Nat.le_refl _))
    have HN7 : Hid ((wr.alloc (.cells zc 45)).heap[wr.heap.size]? = some (.cells zc 45 (0, 0))) := Lib.hid (heap_alloc_new wr _)
    have HR7 : Hid (w7.heap[wr.heap.size]? = some (.cells m.cells.toArray 45 (0, 0))) := Lib.hid (by rw [← hw7]; exact setRow_heap _ _ _ _ _ (0, 0) (heap_alloc_new wr _))
    have HMA7 : Hid (MsgAt w7 wr.heap.size m) := Lib.hid ⟨HR7.out, hmi.hd⟩
    have HZS : Hid (zc.size = m.cells.toArray.size) := Lib.hid (by rw [HZC.out, List.size_toArray, m.cells_length hmi.hd])
    have HK7 := Lib.hid (HS.out.trans hk7 (fun _ _ e => e))
    have HTK := Lib.hid (take_any B cA m w7 (HCF.out.same HK7.out) (HMI.out.same hk7) (HOF.out m hmw))
    unfold TakePost at HTK
    have a0 : w7.cell? ⟨wr.heap.size, 0, none⟩ = some (.int .i64 m.k) := HMA7.out.low 0 _ (by omega) rfl
    have a39 : w7.cell? ⟨wr.heap.size, 39, none⟩ = some (.int .i64 m.cl) := HMA7.out.high 0 39 _ rfl rfl
    have a40 : w7.cell? ⟨wr.heap.size, 40, none⟩ = some (.int .u64 (m.nr : Int)) := HMA7.out.high 1 40 _ rfl rfl
    clear hmr hmi hmw hmm hk7 hw7 hj hlt
    by_cases p1 : m.k = 2
    case neg =>
      have HP := Lib.hid p1
      have e1 : (m.k == 2) = false := by simpa using p1
      clear p1
      go_wp2_with (first | (refine wpList_load_mid (by rfl) 45 _ (by rfl) mg (mf + j * 53) (by rfl) m.cells _ HR.out Try.underlying45 rfl HSZ.out ?_) | (refine wpList_store_row (by rfl) 45 _ _ (by rfl) wr.heap.size m.cells.toArray (by rfl) (by rfl) 45 zc HN7.out HSZ.out HZS.out m.cells_all ?_; rw [HW7.out]) | (refine wpList_load_row (by rfl) 45 _ (by rfl) wr.heap.size (by rfl) 45 m.cells.toArray (0, 0) _ HR7.out Try.underlying45 rfl HSZ.out ?_))
      ((with_reducible refine HTK.out.mono ?_); rintro e w8 hr)
      rcases hr with ⟨hyes, _⟩ | ⟨_, rfl, hk8⟩
      · exact absurd hyes.2.1 HP.out
      obtain ⟨w9, hw9⟩ : ∃ w9, (w8.alloc (.cells ansL0.toArray 41)).setRow w8.heap.size ansL0.toArray = w9 := ⟨_, rfl⟩
      have HW9 := Lib.hid hw9
      have HN9 : Hid ((w8.alloc (.cells ansL0.toArray 41)).heap[w8.heap.size]? = some (.cells ansL0.toArray 41 (0, 0))) := Lib.hid (heap_alloc_new w8 _)
      have hk9 : Same w8 w9 := by rw [← hw9]; exact ((Keeps.refl (fun _ => False) _).alloc _).setRow _ _ (.inl (Nat.le_refl _))
      have HK9 := Lib.hid ((HK7.out.trans hk8 (fun _ _ e => e)).trans hk9 (fun _ _ e => e))
      have HAK := Lib.hid (asked_at B cA (nodes) (7) HBD.out w9 (HCF.out.same HK9.out) HFA.out.1 (by have := HFA.out.2.2; omega))
      unfold AskAt at HAK
      clear hk8 hk9 hw9 HTK a0 a39 a40
      go_wp2_with (refine wpList_store_row (by rfl) 41 _ _ (by rfl) w8.heap.size ansL0.toArray (by rfl) (by rfl) 41 ansL0.toArray HN9.out (by exact Try.sizeAnsW) rfl (ansL_all _ _ _ _ _ _ _ _) ?_; rw [HW9.out])
      ((with_reducible refine HAK.out.mono ?_); rintro e ws ⟨o2, c2, ss, rfl, hm2, ha2, hl2, hks⟩)
      have HKS := Lib.hid (HK9.out.trans hks (fun _ _ e => e))
      have HM2 := Lib.hid hm2
      have HA2 := Lib.hid ha2
      have HL2 := Lib.hid hl2
      clear hks hm2 ha2 hl2 HAK
      go_wp2_with fail
      go_loopw [94] (fun v wq => ∃ i : Nat, i ≤ 7 ∧ v = .int .i64 i ∧ Hid (Same ws wq)) (fun v _ => 7 - (intOf v).toNat)
      case atStart => exact ⟨0, by omega, rfl, Lib.hid (Keeps.refl _ _)⟩
      case round =>
        obtain ⟨i, hi, rfl, HSI⟩ := hrel
        have HEND := Lib.hid (HKS.out.trans HSI.out (fun _ _ e => e))
        by_cases hil : i < 7
        case neg =>
          have hin : ¬ (i : Int) < 7 := by omega
          go_wp2_with fail
          go_roundw
          case rel =>
            first
              | exact ⟨j + 1, by have := HJ.out; omega, by go_num, HEND⟩
              | exact ⟨_, _, _, _, _, _, _, ⟨j + 1, by have := HJ.out; omega, by go_num⟩, rfl, rfl, rfl, rfl, rfl, rfl, rfl⟩
              | exact ⟨_, _, _, _, _, _, _, ⟨j + 1, by have := HJ.out; omega, by go_num, HEND⟩, rfl, rfl, rfl, rfl, rfl, rfl, rfl⟩
          case measure => have := HJ.out; simp [intOf]; omega
        have hin : (i : Int) < 7 := by omega
        have HIL := Lib.hid hil
        obtain ⟨g1, y1, z1, rfl, hr1, hi1⟩ := (HM1.out.same (HKS.out.trans HSI.out (fun _ _ e => e))).pick HA1.out HL1.out hil
        obtain ⟨g2, y2, z2, rfl, hr2, hi2⟩ := (HM2.out.same HSI.out).pick HA2.out HL2.out hil
        have HRF := Lib.hid hr1
        have HIF := Lib.hid hi1
        have HRS := Lib.hid hr2
        have HIS := Lib.hid hi2
        clear hr1 hi1 hr2 hi2 hil hi
        go_wp2_with fail
        refine wp_region_do [[], [], [0, 1], [2], [], [], [4, 5], [6], [3, 7], [8]]
          [some 97, some 98, some 99, some 100, some 101, some 102, some 103, some 104, some 105, some 106]
          [.is (.slice (some ⟨g2, 0, none⟩) 7 c2), .is (.int .i64 (i : Int)), .is (.pointer (some ⟨g2, i * 53, none⟩)), .is (.agg (askM cA i y2 z2).cells.toArray), .is (.slice (some ⟨g1, 0, none⟩) 7 c1), .is (.int .i64 (i : Int)), .is (.pointer (some ⟨g1, i * 53, none⟩)), .is (.agg (askM cA i y1 z1).cells.toArray), .is (.bool true), .is (.bool false)]
          25 _ _ 111 10 (by kernel_rfl) (by rfl) (by rfl) (by kernel_rfl) (by kernel_rfl) (by decide) ?_ ?_
        · refine ⟨?_, ?_, ?_, ?_, ?_, ?_, ?_, ?_, ?_, ?_, trivial⟩
          · intro a w' K hs' hdep hfr hK
            have f16 := hfr 16 (by decide)
            exact plan_do (by rfl) (plan_yield (i := 0) (V := fun _ _ v => v = (.slice (some ⟨g2, 0, none⟩) 7 c2 : Value)) (.slice (some ⟨g2, 0, none⟩) 7 c2) (by go_simp) rfl hK)
          · intro a w' K hs' hdep hfr hK
            have f17 := hfr 17 (by decide)
            exact plan_do (by rfl) (plan_yield (i := 1) (V := fun _ _ v => v = (.int .i64 (i : Int) : Value)) (.int .i64 (i : Int)) (by go_simp) rfl hK)
          · intro a w' K hs' hdep hfr hK
            have e97 : a.tmps[97]?.getD undef = (.slice (some ⟨g2, 0, none⟩) 7 c2) := hdep 0 (by decide) 97 rfl
            have e98 : a.tmps[98]?.getD undef = (.int .i64 (i : Int)) := hdep 1 (by decide) 98 rfl
            have hin : (i : Int) < (7 : Int) := by have := HIL.out; omega
            exact plan_do (by rfl) (plan_yield (i := 2) (V := fun _ _ v => v = (.pointer (some ⟨g2, i * 53, none⟩) : Value)) (.pointer (some ⟨g2, i * 53, none⟩)) (by go_simp) rfl hK)
          · intro a w' K hs' hdep hfr hK
            have e99 : a.tmps[99]?.getD undef = (.pointer (some ⟨g2, i * 53, none⟩)) := hdep 2 (by decide) 99 rfl
            exact plan_do (by rfl) (wp_load_mid (P := Try.prog) 45 (.tmp 99) rfl g2 (i * 53) ((eval_tmp _ _).trans e99) (askM cA i y2 z2).cells _ (rangeW_same HRS.out hs') Try.underlying45 rfl (Try.sizeMsgOf (askM cA i y2 z2) rfl) (hK _ _ (Keeps.refl _ _) rfl))
          · intro a w' K hs' hdep hfr hK
            have f11 := hfr 11 (by decide)
            exact plan_do (by rfl) (plan_yield (i := 4) (V := fun _ _ v => v = (.slice (some ⟨g1, 0, none⟩) 7 c1 : Value)) (.slice (some ⟨g1, 0, none⟩) 7 c1) (by go_simp) rfl hK)
          · intro a w' K hs' hdep hfr hK
            have f17 := hfr 17 (by decide)
            exact plan_do (by rfl) (plan_yield (i := 5) (V := fun _ _ v => v = (.int .i64 (i : Int) : Value)) (.int .i64 (i : Int)) (by go_simp) rfl hK)
          · intro a w' K hs' hdep hfr hK
            have e101 : a.tmps[101]?.getD undef = (.slice (some ⟨g1, 0, none⟩) 7 c1) := hdep 4 (by decide) 101 rfl
            have e102 : a.tmps[102]?.getD undef = (.int .i64 (i : Int)) := hdep 5 (by decide) 102 rfl
            have hin : (i : Int) < (7 : Int) := by have := HIL.out; omega
            exact plan_do (by rfl) (plan_yield (i := 6) (V := fun _ _ v => v = (.pointer (some ⟨g1, i * 53, none⟩) : Value)) (.pointer (some ⟨g1, i * 53, none⟩)) (by go_simp) rfl hK)
          · intro a w' K hs' hdep hfr hK
            have e103 : a.tmps[103]?.getD undef = (.pointer (some ⟨g1, i * 53, none⟩)) := hdep 6 (by decide) 103 rfl
            exact plan_do (by rfl) (wp_load_mid (P := Try.prog) 45 (.tmp 103) rfl g1 (i * 53) ((eval_tmp _ _).trans e103) (askM cA i y1 z1).cells _ (rangeW_same HRF.out hs') Try.underlying45 rfl (Try.sizeMsgOf (askM cA i y1 z1) rfl) (hK _ _ (Keeps.refl _ _) rfl))
          · intro a w' K hs' hdep hfr hK
            have e100 : a.tmps[100]?.getD undef = (.agg (askM cA i y2 z2).cells.toArray) := hdep 3 (by decide) 100 rfl
            have e104 : a.tmps[104]?.getD undef = (.agg (askM cA i y1 z1).cells.toArray) := hdep 7 (by decide) 104 rfl
            refine plan_do (by rfl) (plan_call 15 #[.agg (askM cA i y2 z2).cells.toArray, .agg (askM cA i y1 z1).cells.toArray] (by go_simp) ?_)
            refine (sameMsg0_any (askM cA i y2 z2) (askM cA i y1 z1) w' (HIS.out.same hs') (HIF.out.same hs') ⟨by simp [askM], by simp [askM], by simp [askM]⟩).mono fun e w'' ⟨b, he, hb, hk⟩ => ⟨_, he, hK _ _ hk ?_⟩
            cases b with
            | true => rfl
            | false => exact absurd (hb.2 (ask_eqv cA i y2 z2 y1 z1)) (by simp)
          · intro a w' K hs' hdep hfr hK
            have e105 : a.tmps[105]?.getD undef = (.bool true) := hdep 8 (by decide) 105 rfl
            exact plan_do (by rfl) (plan_yield (i := 9) (V := fun _ _ v => v = (.bool false : Value)) (.bool false) (by go_simp) rfl hK)
        intro a wz hkz hdef hsz hv hfr
        have e106 : a.tmps[106]?.getD undef = (.bool false) := hv 9 106 rfl
        have he := act_eq a _ [some 97, some 98, some 99, some 100, some 101, some 102, some 103, some 104, some 105, some 106] 111 rfl hsz hdef hfr (fun d => a.tmps[d]?.getD undef) (fun _ _ => rfl)
        obtain ⟨v97, h97⟩ : ∃ v, a.tmps[97]?.getD undef = v := ⟨_, rfl⟩
        obtain ⟨v98, h98⟩ : ∃ v, a.tmps[98]?.getD undef = v := ⟨_, rfl⟩
        obtain ⟨v99, h99⟩ : ∃ v, a.tmps[99]?.getD undef = v := ⟨_, rfl⟩
        obtain ⟨v100, h100⟩ : ∃ v, a.tmps[100]?.getD undef = v := ⟨_, rfl⟩
        obtain ⟨v101, h101⟩ : ∃ v, a.tmps[101]?.getD undef = v := ⟨_, rfl⟩
        obtain ⟨v102, h102⟩ : ∃ v, a.tmps[102]?.getD undef = v := ⟨_, rfl⟩
        obtain ⟨v103, h103⟩ : ∃ v, a.tmps[103]?.getD undef = v := ⟨_, rfl⟩
        obtain ⟨v104, h104⟩ : ∃ v, a.tmps[104]?.getD undef = v := ⟨_, rfl⟩
        obtain ⟨v105, h105⟩ : ∃ v, a.tmps[105]?.getD undef = v := ⟨_, rfl⟩
        simp only [putAll, e106, h97, h98, h99, h100, h101, h102, h103, h104, h105, List.setIfInBounds_toArray, List.set_cons_zero, List.set_cons_succ] at he
        clear e106 h97 h98 h99 h100 h101 h102 h103 h104 h105 hdef hsz hv hfr
        subst he
        have HSZ2 := Lib.hid (HSI.out.trans hkz (fun _ _ e => e))
        clear hkz
        go_wp2_with fail
        go_roundw
        case rel => exact ⟨i + 1, by have := HIL.out; omega, by go_num, HSZ2⟩
        case measure => have := HIL.out; simp [intOf]; omega
    have e1 : (m.k == 2) = true := by simpa using p1
    clear p1
    by_cases p2 : m.cl = 2
    case neg =>
      have HP := Lib.hid p2
      have e2 : (m.cl == 2) = false := by simpa using p2
      clear p2
      go_wp2_with (first | (refine wpList_load_mid (by rfl) 45 _ (by rfl) mg (mf + j * 53) (by rfl) m.cells _ HR.out Try.underlying45 rfl HSZ.out ?_) | (refine wpList_store_row (by rfl) 45 _ _ (by rfl) wr.heap.size m.cells.toArray (by rfl) (by rfl) 45 zc HN7.out HSZ.out HZS.out m.cells_all ?_; rw [HW7.out]) | (refine wpList_load_row (by rfl) 45 _ (by rfl) wr.heap.size (by rfl) 45 m.cells.toArray (0, 0) _ HR7.out Try.underlying45 rfl HSZ.out ?_))
      ((with_reducible refine HTK.out.mono ?_); rintro e w8 hr)
      rcases hr with ⟨hyes, _⟩ | ⟨_, rfl, hk8⟩
      · exact absurd (hyes.2.2.2.1.trans HFA.out.2.2) HP.out
      obtain ⟨w9, hw9⟩ : ∃ w9, (w8.alloc (.cells ansL0.toArray 41)).setRow w8.heap.size ansL0.toArray = w9 := ⟨_, rfl⟩
      have HW9 := Lib.hid hw9
      have HN9 : Hid ((w8.alloc (.cells ansL0.toArray 41)).heap[w8.heap.size]? = some (.cells ansL0.toArray 41 (0, 0))) := Lib.hid (heap_alloc_new w8 _)
      have hk9 : Same w8 w9 := by rw [← hw9]; exact ((Keeps.refl (fun _ => False) _).alloc _).setRow _ _ (.inl (Nat.le_refl _))
      have HK9 := Lib.hid ((HK7.out.trans hk8 (fun _ _ e => e)).trans hk9 (fun _ _ e => e))
      have HAK := Lib.hid (asked_at B cA (nodes) (7) HBD.out w9 (HCF.out.same HK9.out) HFA.out.1 (by have := HFA.out.2.2; omega))
      unfold AskAt at HAK
      clear hk8 hk9 hw9 HTK a0 a39 a40
      go_wp2_with (refine wpList_store_row (by rfl) 41 _ _ (by rfl) w8.heap.size ansL0.toArray (by rfl) (by rfl) 41 ansL0.toArray HN9.out (by exact Try.sizeAnsW) rfl (ansL_all _ _ _ _ _ _ _ _) ?_; rw [HW9.out])
      ((with_reducible refine HAK.out.mono ?_); rintro e ws ⟨o2, c2, ss, rfl, hm2, ha2, hl2, hks⟩)
      have HKS := Lib.hid (HK9.out.trans hks (fun _ _ e => e))
      have HM2 := Lib.hid hm2
      have HA2 := Lib.hid ha2
      have HL2 := Lib.hid hl2
      clear hks hm2 ha2 hl2 HAK
      go_wp2_with fail
      go_loopw [94] (fun v wq => ∃ i : Nat, i ≤ 7 ∧ v = .int .i64 i ∧ Hid (Same ws wq)) (fun v _ => 7 - (intOf v).toNat)
      case atStart => exact ⟨0, by omega, rfl, Lib.hid (Keeps.refl _ _)⟩
      case round =>
        obtain ⟨i, hi, rfl, HSI⟩ := hrel
        have HEND := Lib.hid (HKS.out.trans HSI.out (fun _ _ e => e))
        by_cases hil : i < 7
        case neg =>
          have hin : ¬ (i : Int) < 7 := by omega
          go_wp2_with fail
          go_roundw
          case rel =>
            first
              | exact ⟨j + 1, by have := HJ.out; omega, by go_num, HEND⟩
              | exact ⟨_, _, _, _, _, _, _, ⟨j + 1, by have := HJ.out; omega, by go_num⟩, rfl, rfl, rfl, rfl, rfl, rfl, rfl⟩
              | exact ⟨_, _, _, _, _, _, _, ⟨j + 1, by have := HJ.out; omega, by go_num, HEND⟩, rfl, rfl, rfl, rfl, rfl, rfl, rfl⟩
          case measure => have := HJ.out; simp [intOf]; omega
        have hin : (i : Int) < 7 := by omega
        have HIL := Lib.hid hil
        obtain ⟨g1, y1, z1, rfl, hr1, hi1⟩ := (HM1.out.same (HKS.out.trans HSI.out (fun _ _ e => e))).pick HA1.out HL1.out hil
        obtain ⟨g2, y2, z2, rfl, hr2, hi2⟩ := (HM2.out.same HSI.out).pick HA2.out HL2.out hil
        have HRF := Lib.hid hr1
        have HIF := Lib.hid hi1
        have HRS := Lib.hid hr2
        have HIS := Lib.hid hi2
        clear hr1 hi1 hr2 hi2 hil hi
        go_wp2_with fail
        refine wp_region_do [[], [], [0, 1], [2], [], [], [4, 5], [6], [3, 7], [8]]
          [some 97, some 98, some 99, some 100, some 101, some 102, some 103, some 104, some 105, some 106]
          [.is (.slice (some ⟨g2, 0, none⟩) 7 c2), .is (.int .i64 (i : Int)), .is (.pointer (some ⟨g2, i * 53, none⟩)), .is (.agg (askM cA i y2 z2).cells.toArray), .is (.slice (some ⟨g1, 0, none⟩) 7 c1), .is (.int .i64 (i : Int)), .is (.pointer (some ⟨g1, i * 53, none⟩)), .is (.agg (askM cA i y1 z1).cells.toArray), .is (.bool true), .is (.bool false)]
          25 _ _ 111 10 (by kernel_rfl) (by rfl) (by rfl) (by kernel_rfl) (by kernel_rfl) (by decide) ?_ ?_
        · refine ⟨?_, ?_, ?_, ?_, ?_, ?_, ?_, ?_, ?_, ?_, trivial⟩
          · intro a w' K hs' hdep hfr hK
            have f16 := hfr 16 (by decide)
            exact plan_do (by rfl) (plan_yield (i := 0) (V := fun _ _ v => v = (.slice (some ⟨g2, 0, none⟩) 7 c2 : Value)) (.slice (some ⟨g2, 0, none⟩) 7 c2) (by go_simp) rfl hK)
          · intro a w' K hs' hdep hfr hK
            have f17 := hfr 17 (by decide)
            exact plan_do (by rfl) (plan_yield (i := 1) (V := fun _ _ v => v = (.int .i64 (i : Int) : Value)) (.int .i64 (i : Int)) (by go_simp) rfl hK)
          · intro a w' K hs' hdep hfr hK
            have e97 : a.tmps[97]?.getD undef = (.slice (some ⟨g2, 0, none⟩) 7 c2) := hdep 0 (by decide) 97 rfl
            have e98 : a.tmps[98]?.getD undef = (.int .i64 (i : Int)) := hdep 1 (by decide) 98 rfl
            have hin : (i : Int) < (7 : Int) := by have := HIL.out; omega
            exact plan_do (by rfl) (plan_yield (i := 2) (V := fun _ _ v => v = (.pointer (some ⟨g2, i * 53, none⟩) : Value)) (.pointer (some ⟨g2, i * 53, none⟩)) (by go_simp) rfl hK)
          · intro a w' K hs' hdep hfr hK
            have e99 : a.tmps[99]?.getD undef = (.pointer (some ⟨g2, i * 53, none⟩)) := hdep 2 (by decide) 99 rfl
            exact plan_do (by rfl) (wp_load_mid (P := Try.prog) 45 (.tmp 99) rfl g2 (i * 53) ((eval_tmp _ _).trans e99) (askM cA i y2 z2).cells _ (rangeW_same HRS.out hs') Try.underlying45 rfl (Try.sizeMsgOf (askM cA i y2 z2) rfl) (hK _ _ (Keeps.refl _ _) rfl))
          · intro a w' K hs' hdep hfr hK
            have f11 := hfr 11 (by decide)
            exact plan_do (by rfl) (plan_yield (i := 4) (V := fun _ _ v => v = (.slice (some ⟨g1, 0, none⟩) 7 c1 : Value)) (.slice (some ⟨g1, 0, none⟩) 7 c1) (by go_simp) rfl hK)
          · intro a w' K hs' hdep hfr hK
            have f17 := hfr 17 (by decide)
            exact plan_do (by rfl) (plan_yield (i := 5) (V := fun _ _ v => v = (.int .i64 (i : Int) : Value)) (.int .i64 (i : Int)) (by go_simp) rfl hK)
          · intro a w' K hs' hdep hfr hK
            have e101 : a.tmps[101]?.getD undef = (.slice (some ⟨g1, 0, none⟩) 7 c1) := hdep 4 (by decide) 101 rfl
            have e102 : a.tmps[102]?.getD undef = (.int .i64 (i : Int)) := hdep 5 (by decide) 102 rfl
            have hin : (i : Int) < (7 : Int) := by have := HIL.out; omega
            exact plan_do (by rfl) (plan_yield (i := 6) (V := fun _ _ v => v = (.pointer (some ⟨g1, i * 53, none⟩) : Value)) (.pointer (some ⟨g1, i * 53, none⟩)) (by go_simp) rfl hK)
          · intro a w' K hs' hdep hfr hK
            have e103 : a.tmps[103]?.getD undef = (.pointer (some ⟨g1, i * 53, none⟩)) := hdep 6 (by decide) 103 rfl
            exact plan_do (by rfl) (wp_load_mid (P := Try.prog) 45 (.tmp 103) rfl g1 (i * 53) ((eval_tmp _ _).trans e103) (askM cA i y1 z1).cells _ (rangeW_same HRF.out hs') Try.underlying45 rfl (Try.sizeMsgOf (askM cA i y1 z1) rfl) (hK _ _ (Keeps.refl _ _) rfl))
          · intro a w' K hs' hdep hfr hK
            have e100 : a.tmps[100]?.getD undef = (.agg (askM cA i y2 z2).cells.toArray) := hdep 3 (by decide) 100 rfl
            have e104 : a.tmps[104]?.getD undef = (.agg (askM cA i y1 z1).cells.toArray) := hdep 7 (by decide) 104 rfl
            refine plan_do (by rfl) (plan_call 15 #[.agg (askM cA i y2 z2).cells.toArray, .agg (askM cA i y1 z1).cells.toArray] (by go_simp) ?_)
            refine (sameMsg0_any (askM cA i y2 z2) (askM cA i y1 z1) w' (HIS.out.same hs') (HIF.out.same hs') ⟨by simp [askM], by simp [askM], by simp [askM]⟩).mono fun e w'' ⟨b, he, hb, hk⟩ => ⟨_, he, hK _ _ hk ?_⟩
            cases b with
            | true => rfl
            | false => exact absurd (hb.2 (ask_eqv cA i y2 z2 y1 z1)) (by simp)
          · intro a w' K hs' hdep hfr hK
            have e105 : a.tmps[105]?.getD undef = (.bool true) := hdep 8 (by decide) 105 rfl
            exact plan_do (by rfl) (plan_yield (i := 9) (V := fun _ _ v => v = (.bool false : Value)) (.bool false) (by go_simp) rfl hK)
        intro a wz hkz hdef hsz hv hfr
        have e106 : a.tmps[106]?.getD undef = (.bool false) := hv 9 106 rfl
        have he := act_eq a _ [some 97, some 98, some 99, some 100, some 101, some 102, some 103, some 104, some 105, some 106] 111 rfl hsz hdef hfr (fun d => a.tmps[d]?.getD undef) (fun _ _ => rfl)
        obtain ⟨v97, h97⟩ : ∃ v, a.tmps[97]?.getD undef = v := ⟨_, rfl⟩
        obtain ⟨v98, h98⟩ : ∃ v, a.tmps[98]?.getD undef = v := ⟨_, rfl⟩
        obtain ⟨v99, h99⟩ : ∃ v, a.tmps[99]?.getD undef = v := ⟨_, rfl⟩
        obtain ⟨v100, h100⟩ : ∃ v, a.tmps[100]?.getD undef = v := ⟨_, rfl⟩
        obtain ⟨v101, h101⟩ : ∃ v, a.tmps[101]?.getD undef = v := ⟨_, rfl⟩
        obtain ⟨v102, h102⟩ : ∃ v, a.tmps[102]?.getD undef = v := ⟨_, rfl⟩
        obtain ⟨v103, h103⟩ : ∃ v, a.tmps[103]?.getD undef = v := ⟨_, rfl⟩
        obtain ⟨v104, h104⟩ : ∃ v, a.tmps[104]?.getD undef = v := ⟨_, rfl⟩
        obtain ⟨v105, h105⟩ : ∃ v, a.tmps[105]?.getD undef = v := ⟨_, rfl⟩
        simp only [putAll, e106, h97, h98, h99, h100, h101, h102, h103, h104, h105, List.setIfInBounds_toArray, List.set_cons_zero, List.set_cons_succ] at he
        clear e106 h97 h98 h99 h100 h101 h102 h103 h104 h105 hdef hsz hv hfr
        subst he
        have HSZ2 := Lib.hid (HSI.out.trans hkz (fun _ _ e => e))
        clear hkz
        go_wp2_with fail
        go_roundw
        case rel => exact ⟨i + 1, by have := HIL.out; omega, by go_num, HSZ2⟩
        case measure => have := HIL.out; simp [intOf]; omega
    have e2 : (m.cl == 2) = true := by simpa using p2
    clear p2
    by_cases p3 : m.nr = 1
    case neg =>
      have HP := Lib.hid p3
      have e3 : ((m.nr : Int) == 1) = false := by simp; omega
      clear p3
      go_wp2_with (first | (refine wpList_load_mid (by rfl) 45 _ (by rfl) mg (mf + j * 53) (by rfl) m.cells _ HR.out Try.underlying45 rfl HSZ.out ?_) | (refine wpList_store_row (by rfl) 45 _ _ (by rfl) wr.heap.size m.cells.toArray (by rfl) (by rfl) 45 zc HN7.out HSZ.out HZS.out m.cells_all ?_; rw [HW7.out]) | (refine wpList_load_row (by rfl) 45 _ (by rfl) wr.heap.size (by rfl) 45 m.cells.toArray (0, 0) _ HR7.out Try.underlying45 rfl HSZ.out ?_))
      ((with_reducible refine HTK.out.mono ?_); rintro e w8 hr)
      rcases hr with ⟨hyes, _⟩ | ⟨_, rfl, hk8⟩
      · exact absurd (hyes.2.2.2.2.trans HFA.out.2.1) HP.out
      obtain ⟨w9, hw9⟩ : ∃ w9, (w8.alloc (.cells ansL0.toArray 41)).setRow w8.heap.size ansL0.toArray = w9 := ⟨_, rfl⟩
      have HW9 := Lib.hid hw9
      have HN9 : Hid ((w8.alloc (.cells ansL0.toArray 41)).heap[w8.heap.size]? = some (.cells ansL0.toArray 41 (0, 0))) := Lib.hid (heap_alloc_new w8 _)
      have hk9 : Same w8 w9 := by rw [← hw9]; exact ((Keeps.refl (fun _ => False) _).alloc _).setRow _ _ (.inl (Nat.le_refl _))
      have HK9 := Lib.hid ((HK7.out.trans hk8 (fun _ _ e => e)).trans hk9 (fun _ _ e => e))
      have HAK := Lib.hid (asked_at B cA (nodes) (7) HBD.out w9 (HCF.out.same HK9.out) HFA.out.1 (by have := HFA.out.2.2; omega))
      unfold AskAt at HAK
      clear hk8 hk9 hw9 HTK a0 a39 a40
      go_wp2_with (refine wpList_store_row (by rfl) 41 _ _ (by rfl) w8.heap.size ansL0.toArray (by rfl) (by rfl) 41 ansL0.toArray HN9.out (by exact Try.sizeAnsW) rfl (ansL_all _ _ _ _ _ _ _ _) ?_; rw [HW9.out])
      ((with_reducible refine HAK.out.mono ?_); rintro e ws ⟨o2, c2, ss, rfl, hm2, ha2, hl2, hks⟩)
      have HKS := Lib.hid (HK9.out.trans hks (fun _ _ e => e))
      have HM2 := Lib.hid hm2
      have HA2 := Lib.hid ha2
      have HL2 := Lib.hid hl2
      clear hks hm2 ha2 hl2 HAK
      go_wp2_with fail
      go_loopw [94] (fun v wq => ∃ i : Nat, i ≤ 7 ∧ v = .int .i64 i ∧ Hid (Same ws wq)) (fun v _ => 7 - (intOf v).toNat)
      case atStart => exact ⟨0, by omega, rfl, Lib.hid (Keeps.refl _ _)⟩
      case round =>
        obtain ⟨i, hi, rfl, HSI⟩ := hrel
        have HEND := Lib.hid (HKS.out.trans HSI.out (fun _ _ e => e))
        by_cases hil : i < 7
        case neg =>
          have hin : ¬ (i : Int) < 7 := by omega
          go_wp2_with fail
          go_roundw
          case rel =>
            first
              | exact ⟨j + 1, by have := HJ.out; omega, by go_num, HEND⟩
              | exact ⟨_, _, _, _, _, _, _, ⟨j + 1, by have := HJ.out; omega, by go_num⟩, rfl, rfl, rfl, rfl, rfl, rfl, rfl⟩
              | exact ⟨_, _, _, _, _, _, _, ⟨j + 1, by have := HJ.out; omega, by go_num, HEND⟩, rfl, rfl, rfl, rfl, rfl, rfl, rfl⟩
          case measure => have := HJ.out; simp [intOf]; omega
        have hin : (i : Int) < 7 := by omega
        have HIL := Lib.hid hil
        obtain ⟨g1, y1, z1, rfl, hr1, hi1⟩ := (HM1.out.same (HKS.out.trans HSI.out (fun _ _ e => e))).pick HA1.out HL1.out hil
        obtain ⟨g2, y2, z2, rfl, hr2, hi2⟩ := (HM2.out.same HSI.out).pick HA2.out HL2.out hil
        have HRF := Lib.hid hr1
        have HIF := Lib.hid hi1
        have HRS := Lib.hid hr2
        have HIS := Lib.hid hi2
        clear hr1 hi1 hr2 hi2 hil hi
        go_wp2_with fail
        refine wp_region_do [[], [], [0, 1], [2], [], [], [4, 5], [6], [3, 7], [8]]
          [some 97, some 98, some 99, some 100, some 101, some 102, some 103, some 104, some 105, some 106]
          [.is (.slice (some ⟨g2, 0, none⟩) 7 c2), .is (.int .i64 (i : Int)), .is (.pointer (some ⟨g2, i * 53, none⟩)), .is (.agg (askM cA i y2 z2).cells.toArray), .is (.slice (some ⟨g1, 0, none⟩) 7 c1), .is (.int .i64 (i : Int)), .is (.pointer (some ⟨g1, i * 53, none⟩)), .is (.agg (askM cA i y1 z1).cells.toArray), .is (.bool true), .is (.bool false)]
          25 _ _ 111 10 (by kernel_rfl) (by rfl) (by rfl) (by kernel_rfl) (by kernel_rfl) (by decide) ?_ ?_
        · refine ⟨?_, ?_, ?_, ?_, ?_, ?_, ?_, ?_, ?_, ?_, trivial⟩
          · intro a w' K hs' hdep hfr hK
            have f16 := hfr 16 (by decide)
            exact plan_do (by rfl) (plan_yield (i := 0) (V := fun _ _ v => v = (.slice (some ⟨g2, 0, none⟩) 7 c2 : Value)) (.slice (some ⟨g2, 0, none⟩) 7 c2) (by go_simp) rfl hK)
          · intro a w' K hs' hdep hfr hK
            have f17 := hfr 17 (by decide)
            exact plan_do (by rfl) (plan_yield (i := 1) (V := fun _ _ v => v = (.int .i64 (i : Int) : Value)) (.int .i64 (i : Int)) (by go_simp) rfl hK)
          · intro a w' K hs' hdep hfr hK
            have e97 : a.tmps[97]?.getD undef = (.slice (some ⟨g2, 0, none⟩) 7 c2) := hdep 0 (by decide) 97 rfl
            have e98 : a.tmps[98]?.getD undef = (.int .i64 (i : Int)) := hdep 1 (by decide) 98 rfl
            have hin : (i : Int) < (7 : Int) := by have := HIL.out; omega
            exact plan_do (by rfl) (plan_yield (i := 2) (V := fun _ _ v => v = (.pointer (some ⟨g2, i * 53, none⟩) : Value)) (.pointer (some ⟨g2, i * 53, none⟩)) (by go_simp) rfl hK)
          · intro a w' K hs' hdep hfr hK
            have e99 : a.tmps[99]?.getD undef = (.pointer (some ⟨g2, i * 53, none⟩)) := hdep 2 (by decide) 99 rfl
            exact plan_do (by rfl) (wp_load_mid (P := Try.prog) 45 (.tmp 99) rfl g2 (i * 53) ((eval_tmp _ _).trans e99) (askM cA i y2 z2).cells _ (rangeW_same HRS.out hs') Try.underlying45 rfl (Try.sizeMsgOf (askM cA i y2 z2) rfl) (hK _ _ (Keeps.refl _ _) rfl))
          · intro a w' K hs' hdep hfr hK
            have f11 := hfr 11 (by decide)
            exact plan_do (by rfl) (plan_yield (i := 4) (V := fun _ _ v => v = (.slice (some ⟨g1, 0, none⟩) 7 c1 : Value)) (.slice (some ⟨g1, 0, none⟩) 7 c1) (by go_simp) rfl hK)
          · intro a w' K hs' hdep hfr hK
            have f17 := hfr 17 (by decide)
            exact plan_do (by rfl) (plan_yield (i := 5) (V := fun _ _ v => v = (.int .i64 (i : Int) : Value)) (.int .i64 (i : Int)) (by go_simp) rfl hK)
          · intro a w' K hs' hdep hfr hK
            have e101 : a.tmps[101]?.getD undef = (.slice (some ⟨g1, 0, none⟩) 7 c1) := hdep 4 (by decide) 101 rfl
            have e102 : a.tmps[102]?.getD undef = (.int .i64 (i : Int)) := hdep 5 (by decide) 102 rfl
            have hin : (i : Int) < (7 : Int) := by have := HIL.out; omega
            exact plan_do (by rfl) (plan_yield (i := 6) (V := fun _ _ v => v = (.pointer (some ⟨g1, i * 53, none⟩) : Value)) (.pointer (some ⟨g1, i * 53, none⟩)) (by go_simp) rfl hK)
          · intro a w' K hs' hdep hfr hK
            have e103 : a.tmps[103]?.getD undef = (.pointer (some ⟨g1, i * 53, none⟩)) := hdep 6 (by decide) 103 rfl
            exact plan_do (by rfl) (wp_load_mid (P := Try.prog) 45 (.tmp 103) rfl g1 (i * 53) ((eval_tmp _ _).trans e103) (askM cA i y1 z1).cells _ (rangeW_same HRF.out hs') Try.underlying45 rfl (Try.sizeMsgOf (askM cA i y1 z1) rfl) (hK _ _ (Keeps.refl _ _) rfl))
          · intro a w' K hs' hdep hfr hK
            have e100 : a.tmps[100]?.getD undef = (.agg (askM cA i y2 z2).cells.toArray) := hdep 3 (by decide) 100 rfl
            have e104 : a.tmps[104]?.getD undef = (.agg (askM cA i y1 z1).cells.toArray) := hdep 7 (by decide) 104 rfl
            refine plan_do (by rfl) (plan_call 15 #[.agg (askM cA i y2 z2).cells.toArray, .agg (askM cA i y1 z1).cells.toArray] (by go_simp) ?_)
            refine (sameMsg0_any (askM cA i y2 z2) (askM cA i y1 z1) w' (HIS.out.same hs') (HIF.out.same hs') ⟨by simp [askM], by simp [askM], by simp [askM]⟩).mono fun e w'' ⟨b, he, hb, hk⟩ => ⟨_, he, hK _ _ hk ?_⟩
            cases b with
            | true => rfl
            | false => exact absurd (hb.2 (ask_eqv cA i y2 z2 y1 z1)) (by simp)
          · intro a w' K hs' hdep hfr hK
            have e105 : a.tmps[105]?.getD undef = (.bool true) := hdep 8 (by decide) 105 rfl
            exact plan_do (by rfl) (plan_yield (i := 9) (V := fun _ _ v => v = (.bool false : Value)) (.bool false) (by go_simp) rfl hK)
        intro a wz hkz hdef hsz hv hfr
        have e106 : a.tmps[106]?.getD undef = (.bool false) := hv 9 106 rfl
        have he := act_eq a _ [some 97, some 98, some 99, some 100, some 101, some 102, some 103, some 104, some 105, some 106] 111 rfl hsz hdef hfr (fun d => a.tmps[d]?.getD undef) (fun _ _ => rfl)
        obtain ⟨v97, h97⟩ : ∃ v, a.tmps[97]?.getD undef = v := ⟨_, rfl⟩
        obtain ⟨v98, h98⟩ : ∃ v, a.tmps[98]?.getD undef = v := ⟨_, rfl⟩
        obtain ⟨v99, h99⟩ : ∃ v, a.tmps[99]?.getD undef = v := ⟨_, rfl⟩
        obtain ⟨v100, h100⟩ : ∃ v, a.tmps[100]?.getD undef = v := ⟨_, rfl⟩
        obtain ⟨v101, h101⟩ : ∃ v, a.tmps[101]?.getD undef = v := ⟨_, rfl⟩
        obtain ⟨v102, h102⟩ : ∃ v, a.tmps[102]?.getD undef = v := ⟨_, rfl⟩
        obtain ⟨v103, h103⟩ : ∃ v, a.tmps[103]?.getD undef = v := ⟨_, rfl⟩
        obtain ⟨v104, h104⟩ : ∃ v, a.tmps[104]?.getD undef = v := ⟨_, rfl⟩
        obtain ⟨v105, h105⟩ : ∃ v, a.tmps[105]?.getD undef = v := ⟨_, rfl⟩
        simp only [putAll, e106, h97, h98, h99, h100, h101, h102, h103, h104, h105, List.setIfInBounds_toArray, List.set_cons_zero, List.set_cons_succ] at he
        clear e106 h97 h98 h99 h100 h101 h102 h103 h104 h105 hdef hsz hv hfr
        subst he
        have HSZ2 := Lib.hid (HSI.out.trans hkz (fun _ _ e => e))
        clear hkz
        go_wp2_with fail
        go_roundw
        case rel => exact ⟨i + 1, by have := HIL.out; omega, by go_num, HSZ2⟩
        case measure => have := HIL.out; simp [intOf]; omega
    have e3 : ((m.nr : Int) == 1) = true := by simp; omega
    clear p3
    have HEND := HK7
    go_wp2_with (first | (refine wpList_load_mid (by rfl) 45 _ (by rfl) mg (mf + j * 53) (by rfl) m.cells _ HR.out Try.underlying45 rfl HSZ.out ?_) | (refine wpList_store_row (by rfl) 45 _ _ (by rfl) wr.heap.size m.cells.toArray (by rfl) (by rfl) 45 zc HN7.out HSZ.out HZS.out m.cells_all ?_; rw [HW7.out]))
    go_roundw
    case rel =>
      first
        | exact ⟨j + 1, by have := HJ.out; omega, by go_num, HEND⟩
        | exact ⟨_, _, _, _, _, _, _, _, _, _, _, _, _, _, _, _, _, _, _, _, _, _, _, _, _, _, _, _, _, _, _, _, _, _, _, _, _, _, _, _, _, _, _, _, _, _, _, _, _, _, _, _, _, ⟨j + 1, by have := HJ.out; omega, by go_num⟩, rfl⟩
        | exact ⟨_, _, _, _, _, _, _, _, _, _, _, _, _, _, _, _, _, _, _, _, _, _, _, _, _, _, _, _, _, _, _, _, _, _, _, _, _, _, _, _, _, _, _, _, _, _, _, _, _, _, _, _, _, ⟨j + 1, by have := HJ.out; omega, by go_num, HEND⟩, rfl⟩
    case measure => have := HJ.out; simp [intOf]; omega

theorem again_any (k f n : Int) (p t : ByteArray) (xo : Option Addr) (xc : Nat) (ds : List UInt8) (mo : Option Addr) (mcp : Nat) (ms : List Msg) (nodes : Int) (w : World) (hx : Reads w (.slice xo ds.length xc) ds) (hm : MsgsAt w mo ms) : Calls Try.prog 5 #[.agg (opL k f n p t (.slice xo ds.length xc)).toArray, .slice mo ms.length mcp, .int .i64 nodes] w fun e w' => e = .returned (.bool true) ∧ Same w w' := by
  by_cases q1 : nodes < 0
  · exact again_neg nodes k f n p t xo xc ds mo mcp ms q1 (by omega) w hx hm
  by_cases q2 : nodes ≤ 7
  · obtain ⟨N, rfl⟩ : ∃ N : Nat, nodes = (N : Int) := ⟨nodes.toNat, by omega⟩
    exact again_mid N k f n p t xo xc ds mo mcp ms q1 q2 w hx hm
  · exact again_big nodes k f n p t xo xc ds mo mcp ms q1 q2 w hx hm
end Go.Proofs.Ytlglkkoippoafaa
