/- The walk of ClientOnce. -/
import Derived.Test.YtlglkkoippoafaaCl7
namespace Go.Proofs.Ytlglkkoippoafaa
open Go.RowKit
set_option linter.unusedVariables false

theorem OpsAt.same {w w' : World} {ao : Option Addr} {os : List OpX} (h : OpsAt w ao os) (k : Same w w') : OpsAt w' ao os := by
  rcases h with h | ⟨g, off, e, h⟩
  · exact .inl h
  · exact .inr ⟨g, off, e, fun j hj => ⟨fun i v hv => cell_sameC ((h j hj).1 i v hv) k (fun e => e), (h j hj).2.same k⟩⟩
theorem MsgsAt.same {w w' : World} {ao : Option Addr} {ms : List Msg} (h : MsgsAt w ao ms) (k : Same w w') : MsgsAt w' ao ms := by
  rcases h with h | ⟨g, off, e, h⟩
  · exact .inl h
  · exact .inr ⟨g, off, e, fun j hj => ⟨fun i v hv => cell_sameC ((h j hj).1 i v hv) k (fun e => e), (h j hj).2.same k⟩⟩
theorem MRow.len {base : Nat} {w : World} {v : Value} {ms : List Msg} (h : MRow base w v ms) : ∃ o cp, v = .slice o ms.length cp := by
  rcases h.own.2 with ⟨rfl, h1⟩ | ⟨g, cap, cur, rfl, _⟩
  · exact ⟨none, 0, by rw [h1]⟩
  · exact ⟨_, cap, rfl⟩
theorem asked_yes (B : Nat) (c : Cl) (w : World) (h : ClAt w B c) (hw : c.wt = true) (hid : c.id = 1) : Calls Try.prog 13 #[.pointer (some ⟨B, 0, none⟩), .int .i64 3] w fun e w' => (∃ o cp, e = .returned (.slice o 3 cp)) ∧ Same w w' :=
  (ask_any B c 3 3 (by omega) w h hw (by omega)).mono fun e w' ⟨v, ms, he, hm, _, hl, hk⟩ => by
    obtain ⟨o, cp, rfl⟩ := hm.len
    rw [hl] at he
    exact ⟨⟨o, cp, he⟩, hk⟩
theorem asked_no (B : Nat) (c : Cl) (w : World) (h : ClAt w B c) (hw : c.wt = false) : Calls Try.prog 13 #[.pointer (some ⟨B, 0, none⟩), .int .i64 3] w fun e w' => (∃ o cp, e = .returned (.slice o 0 cp)) ∧ Same w w' :=
  (ask_rest B c 3 w h hw).mono fun e w' ⟨v, ms, he, hm, _, hl, hk⟩ => by
    obtain ⟨o, cp, rfl⟩ := hm.len
    rw [hl] at he
    exact ⟨⟨o, cp, he⟩, hk⟩
theorem waits_at (B : Nat) (c : Cl) (b : Bool) (w : World) (h : ClAt w B c) (hw : c.wt = b) : Calls Try.prog 19 #[.pointer (some ⟨B, 0, none⟩)] w fun e w' => e = .returned (.bool b) ∧ Same w w' := by
  subst hw
  exact waiting_any B c w h
theorem keepsB {w w1 w2 : World} {B : Nat} (hB : w.heap.size ≤ B) (h : Same w w1) (k : Keeps (fun q => q = B) w1 w2) : Same w w2 := h.trans k (fun q hq e => by omega)

set_option maxRecDepth 100000 in
set_option maxHeartbeats 25600000 in
theorem once_any (ao mo : Option Addr) (oc mcp : Nat) (os : List OpX) (ms : List Msg) (w : World) (ho : OpsAt w ao os) (hm : MsgsAt w mo ms) : Calls Try.prog 4 #[.slice ao os.length oc, .slice mo ms.length mcp] w fun e w' => e = .returned (.bool true) ∧ Same w w' := by
  have hza := Try.zeroAnsL
  have HSP := Lib.hid (speaks25 w)
  have HO := Lib.hid ho
  have HM := Lib.hid hm
  clear ho hm
  by_cases qa : (20 : Int) < (os.length : Int)
  · go_enter Try.func4, Try.ntmps4
    go_wp2_with fail
    ((with_reducible refine HSP.out.mono ?_); rintro e w1 ⟨rfl, hk1⟩)
    have HK1 := Lib.hid hk1
    clear hk1
    go_wp2_with fail
    go_ret
    exact ⟨rfl, HK1.out⟩
  by_cases qb : (40 : Int) < (ms.length : Int)
  · go_enter Try.func4, Try.ntmps4
    go_wp2_with fail
    ((with_reducible refine HSP.out.mono ?_); rintro e w1 ⟨rfl, hk1⟩)
    have HK1 := Lib.hid hk1
    clear hk1
    go_wp2_with fail
    go_ret
    exact ⟨rfl, HK1.out⟩
  go_enter Try.func4, Try.ntmps4
  go_wp2_with fail
  ((with_reducible refine HSP.out.mono ?_); rintro e w1 ⟨rfl, hk1⟩)
  have HK1 := Lib.hid hk1
  clear hk1
  have HNW := Lib.hid (new_any 1 (by omega) (by omega) w1)
  go_wp2_with fail
  ((with_reducible refine HNW.out.mono ?_); rintro e w2 ⟨B, rfl, hc2, hB, hk2⟩)
  have HC2 := Lib.hid hc2
  have HB : Hid (w.heap.size ≤ B) := Lib.hid (by have := HK1.out.size; omega)
  have HK2 := Lib.hid (HK1.out.trans hk2 (fun _ _ e => e))
  have HLEN : Hid (os.length ≤ 20 ∧ ms.length ≤ 40) := Lib.hid (by omega)
  obtain ⟨N, hN⟩ : ∃ n, max os.length ms.length = n := ⟨_, rfl⟩
  have HN := Lib.hid hN
  have HOF : Hid (∀ m : Msg, MsgIn w m → m.Off B) := Lib.hid (fun m h => h.off HB.out)
  clear hc2 hB hk2 qa qb hN
  go_wp2_with fail
  go_loopw [7, 8, 9] (fun a b i wr => ∃ (j : Nat) (opn : Bool) (c : Cl), j ≤ N ∧ i = .int .i64 j ∧ a = .int .u64 (c.nr : Int) ∧ b = .bool opn ∧ Hid (c.wt = opn ∧ c.id = 1 ∧ c.nr ≤ j) ∧ Hid (ClAt wr B c) ∧ Hid (Same w wr)) (fun _ _ i _ => N - (intOf i).toNat)
  case atStart => exact ⟨0, false, cl0 1, by omega, rfl, rfl, rfl, Lib.hid ⟨rfl, rfl, by simp [cl0]⟩, HC2, HK2⟩
  case round =>
    obtain ⟨j, opn, c, hj, rfl, rfl, rfl, HF, HC, HS⟩ := hrel
    have hj40 : j ≤ 40 := by have := HN.out; have := HLEN.out; omega
    have HJ := Lib.hid hj
    have HJ40 := Lib.hid hj40
    have hu : IntKind.u64.wrap ((c.nr : Int) + 1) = (c.nr : Int) + 1 := IntWalk.u64_in _ (by have := HF.out; omega)
    clear hj
    cases opn with
    | true =>
      by_cases qo : (j : Int) < (os.length : Int)
      case neg =>
        by_cases qe : (j : Int) < (ms.length : Int)
        case neg =>
          go_wp2_with fail
          go_ret
          exact ⟨rfl, HS.out⟩
        have HLT : Hid (j < os.length ∨ j < ms.length) := Lib.hid (by omega)
        have HSA := HS
        have HCA := HC
        have HFA : Hid (c.wt = true ∧ (c.nr : Int) = (c.nr : Int) ∧ c.id = 1 ∧ c.nr ≤ j + 1) := Lib.hid ⟨HF.out.1, rfl, HF.out.2.1, by have := HF.out.2.2; omega⟩
        obtain ⟨mg, mf, hme, hmr, hmi⟩ := (HM.out.same HSA.out).at (j := j) (by omega)
        have hmw : MsgIn w ms[j] := by
          obtain ⟨_, _, _, _, h⟩ := HM.out.at (j := j) (by omega)
          exact h
        subst hme
        obtain ⟨m, hmm⟩ : ∃ x, ms[j]'(by omega) = x := ⟨_, rfl⟩
        rw [hmm] at hmr hmi hmw
        have HMM := Lib.hid hmm
        have HR := Lib.hid hmr
        have HMI := Lib.hid hmi
        have HMW := Lib.hid hmw
        have HSZ := Lib.hid (Try.sizeMsgOf m hmi.hd)
        have HTK := Lib.hid (take_any B c m wr HCA.out hmi (HOF.out m hmw))
        unfold TakePost at HTK
        clear hmr hmi hmw hmm
        go_wp2_with (refine wpList_load_mid (by rfl) 45 _ (by rfl) mg (mf + j * 53) (by rfl) m.cells _ HR.out Try.underlying45 rfl HSZ.out ?_)
        ((with_reducible refine HTK.out.mono ?_); rintro e w4 hr)
        rcases hr with ⟨hyes, y, bo, bc, rfl, hy, hs4, hk4, hc4⟩ | ⟨hno, rfl, hk4⟩
        case inl =>
          obtain ⟨yyo, yyc, rfl, _⟩ := id hy
          obtain ⟨ac1, hac1⟩ : ∃ x, (ansL m.ac m.an (.slice yyo m.ad.length yyc) (.slice bo m.ns.length bc)).toArray = x := ⟨_, rfl⟩
          rw [hac1]
          have HAC : Hid (ac1.size = 4 ∧ ac1.all (·.oneCell') = true) := Lib.hid (by rw [← hac1]; exact ⟨rfl, ansL_all _ _ _ _ _ _ _ _⟩)
          obtain ⟨w5, hw5⟩ : ∃ w5, (w4.alloc (.cells ansL0.toArray 41)).setRow w4.heap.size ac1 = w5 := ⟨_, rfl⟩
          have HW5 := Lib.hid hw5
          have HN5 : Hid ((w4.alloc (.cells ansL0.toArray 41)).heap[w4.heap.size]? = some (.cells ansL0.toArray 41 (0, 0))) := Lib.hid (heap_alloc_new w4 _)
          have hk45 : Same w4 w5 := by rw [← hw5]; exact ((Keeps.refl (fun _ => False) _).alloc _).setRow _ _ (.inl (Nat.le_refl _))
          have HIA : Hid ((Try.prog.info? 41).map (·.size) = some ac1.size) := Lib.hid (by rw [HAC.out.1]; exact Try.sizeAnsW)
          have HIZ : Hid (ansL0.toArray.size = ac1.size) := Lib.hid (by rw [HAC.out.1]; rfl)
          have HALA := Lib.hid HAC.out.2
          have HS4 := Lib.hid (keepsB HB.out HSA.out hk4)
          have HSB := Lib.hid (HS4.out.trans hk45 (fun _ _ e => e))
          have HCB := Lib.hid (hc4.same hk45)
          have HFB : Hid (c.rests.wt = false ∧ (c.rests.nr : Int) = (c.nr : Int) ∧ c.rests.id = 1 ∧ c.rests.nr ≤ j + 1) := Lib.hid ⟨rfl, rfl, HFA.out.2.2.1, HFA.out.2.2.2⟩
          obtain ⟨cB, hcB⟩ : ∃ x, c.rests = x := ⟨_, rfl⟩
          rw [hcB] at HFB HCB
          have HRW : Hid (w.rangeAt mg (mf + j * 53) m.cells) := Lib.hid (by
            obtain ⟨mg', mf', e', h', _⟩ := HM.out.at (j := j) (by omega)
            simp only [Option.some.injEq, Addr.mk.injEq, and_true] at e'
            obtain ⟨rfl, rfl⟩ := e'
            rwa [show ms[j]'(by omega) = m from HMM.out] at h')
          have l40 : w5.cell? ⟨mg, mf + j * 53 + 40, none⟩ = some (.int .u64 (m.nr : Int)) := cell_sameC (HRW.out 40 _ ((m.at_high HMI.out.hd 1).trans rfl)) HSB.out (fun e => e)
          have l39 : w5.cell? ⟨mg, mf + j * 53 + 39, none⟩ = some (.int .i64 m.cl) := cell_sameC (HRW.out 39 _ ((m.at_high HMI.out.hd 0).trans rfl)) HSB.out (fun e => e)
          have n1 : ((m.nr : Int) != (c.nr : Int)) = false := by have h1 := hyes.2.2.2.2; simp; omega
          have n2 : (m.cl != 1) = false := by have h1 := hyes.2.2.2.1; have h2 := HFA.out.2.2.1; simp; omega
          clear hy hs4 hk4 hc4 hk45 hw5 hac1 hcB hyes HTK
          have HWC := Lib.hid (waits_at B cB false w5 HCB.out HFB.out.1)
          go_wp2_with (refine wpList_store_row (by rfl) 41 _ _ (by rfl) w4.heap.size ac1 (by rfl) (by rfl) 41 ansL0.toArray HN5.out HIA.out HIZ.out HALA.out ?_; rw [HW5.out])
          ((with_reducible refine HWC.out.mono ?_); rintro e w8 ⟨rfl, hk8⟩)
          have HAK := Lib.hid (asked_no B cB w8 (HCB.out.same hk8) HFB.out.1)
          have HS8 := Lib.hid (HSB.out.trans hk8 (fun _ _ e => e))
          have HC8 := Lib.hid (HCB.out.same hk8)
          clear hk8
          go_wp2_with fail
          ((with_reducible refine HAK.out.mono ?_); rintro e w9 ⟨⟨ox, cx, rfl⟩, hk9⟩)
          have HS9 := Lib.hid (HS8.out.trans hk9 (fun _ _ e => e))
          have HC9 := Lib.hid (HC8.out.same hk9)
          clear hk9
          go_wp2_with fail
          go_roundw
          case rel => exact ⟨j + 1, false, cB, by have := HN.out; have := HLT.out; omega, by go_num, by rw [HFB.out.2.1], rfl, Lib.hid ⟨HFB.out.1, HFB.out.2.2⟩, HC9, HS9⟩
          case measure => have := HN.out; have := HLT.out; simp [intOf]; omega
        obtain ⟨w5, hw5⟩ : ∃ w5, (w4.alloc (.cells ansL0.toArray 41)).setRow w4.heap.size ansL0.toArray = w5 := ⟨_, rfl⟩
        have HW5 := Lib.hid hw5
        have HN5 : Hid ((w4.alloc (.cells ansL0.toArray 41)).heap[w4.heap.size]? = some (.cells ansL0.toArray 41 (0, 0))) := Lib.hid (heap_alloc_new w4 _)
        have hk45 : Same w4 w5 := by rw [← hw5]; exact ((Keeps.refl (fun _ => False) _).alloc _).setRow _ _ (.inl (Nat.le_refl _))
        have HS4 := Lib.hid (HSA.out.trans hk4 (fun _ _ e => e))
        have HSB := Lib.hid (HS4.out.trans hk45 (fun _ _ e => e))
        have HCB := Lib.hid ((HCA.out.same hk4).same hk45)
        have HFB := HFA
        clear hk4 hk45 hw5 hno HTK
        have HWC := Lib.hid (waits_at B c true w5 HCB.out HFB.out.1)
        go_wp2_with (refine wpList_store_row (by rfl) 41 _ _ (by rfl) w4.heap.size ansL0.toArray (by rfl) (by rfl) 41 ansL0.toArray HN5.out (by exact Try.sizeAnsW) rfl (ansL_all _ _ _ _ _ _ _ _) ?_; rw [HW5.out])
        ((with_reducible refine HWC.out.mono ?_); rintro e w8 ⟨rfl, hk8⟩)
        have HAK := Lib.hid (asked_yes B c w8 (HCB.out.same hk8) HFB.out.1 HFB.out.2.2.1)
        have HS8 := Lib.hid (HSB.out.trans hk8 (fun _ _ e => e))
        have HC8 := Lib.hid (HCB.out.same hk8)
        clear hk8
        go_wp2_with fail
        ((with_reducible refine HAK.out.mono ?_); rintro e w9 ⟨⟨ox, cx, rfl⟩, hk9⟩)
        have HS9 := Lib.hid (HS8.out.trans hk9 (fun _ _ e => e))
        have HC9 := Lib.hid (HC8.out.same hk9)
        clear hk9
        go_wp2_with fail
        go_roundw
        case rel => exact ⟨j + 1, true, c, by have := HN.out; have := HLT.out; omega, by go_num, rfl, rfl, Lib.hid ⟨HFB.out.1, HFB.out.2.2⟩, HC9, HS9⟩
        case measure => have := HN.out; have := HLT.out; simp [intOf]; omega
      have HLT : Hid (j < os.length ∨ j < ms.length) := Lib.hid (by omega)
      obtain ⟨og, of, hoe, hor, hox⟩ := (HO.out.same HS.out).at (j := j) (by omega)
      have hxw : Reads w os[j].val os[j].ds := by
        obtain ⟨_, _, _, _, h⟩ := HO.out.at (j := j) (by omega)
        exact h
      subst hoe
      obtain ⟨x, hxx⟩ : ∃ x, os[j]'(by omega) = x := ⟨_, rfl⟩
      rw [hxx] at hor hox hxw
      obtain ⟨k, f, n, p, t, xo, xc, ds⟩ := x
      simp only [OpX.cells, OpX.val] at hor hox hxw
      have HOR := Lib.hid hor
      have HOX := Lib.hid hox
      have HXW := Lib.hid hxw
      clear hor hox hxw hxx
      have HCL := Lib.hid (call_busy B c k f n p t (.slice xo ds.length xc) wr HC.out HF.out.1)
      go_wp2_with (refine wpList_load_mid (by rfl) 32 _ (by rfl) og (of + j * 6) (by rfl) (opL k f n p t (.slice xo ds.length xc)) _ HOR.out Try.underlying32 rfl (by exact Try.sizeOpW) ?_)
      ((with_reducible refine HCL.out.mono ?_); rintro e wA ⟨rfl, hkA⟩)
      have HSA := Lib.hid (HS.out.trans hkA (fun _ _ e => e))
      have HCA := Lib.hid (HC.out.same hkA)
      clear hkA HCL
      have HFA : Hid (c.wt = true ∧ (c.nr : Int) = (c.nr : Int) ∧ c.id = 1 ∧ c.nr ≤ j + 1) := Lib.hid ⟨HF.out.1, rfl, HF.out.2.1, by have := HF.out.2.2; omega⟩
      by_cases qm : (j : Int) < (ms.length : Int)
      case neg =>
        have HCB := HCA
        have HSB := HSA
        have HFB := HFA
        have HWC := Lib.hid (waits_at B c true wA HCB.out HFB.out.1)
        go_wp2_with fail
        ((with_reducible refine HWC.out.mono ?_); rintro e w8 ⟨rfl, hk8⟩)
        have HAK := Lib.hid (asked_yes B c w8 (HCB.out.same hk8) HFB.out.1 HFB.out.2.2.1)
        have HS8 := Lib.hid (HSB.out.trans hk8 (fun _ _ e => e))
        have HC8 := Lib.hid (HCB.out.same hk8)
        clear hk8
        go_wp2_with fail
        ((with_reducible refine HAK.out.mono ?_); rintro e w9 ⟨⟨ox, cx, rfl⟩, hk9⟩)
        have HS9 := Lib.hid (HS8.out.trans hk9 (fun _ _ e => e))
        have HC9 := Lib.hid (HC8.out.same hk9)
        clear hk9
        go_wp2_with fail
        go_roundw
        case rel => exact ⟨j + 1, true, c, by have := HN.out; have := HLT.out; omega, by go_num, rfl, rfl, Lib.hid ⟨HFB.out.1, HFB.out.2.2⟩, HC9, HS9⟩
        case measure => have := HN.out; have := HLT.out; simp [intOf]; omega
      obtain ⟨mg, mf, hme, hmr, hmi⟩ := (HM.out.same HSA.out).at (j := j) (by omega)
      have hmw : MsgIn w ms[j] := by
        obtain ⟨_, _, _, _, h⟩ := HM.out.at (j := j) (by omega)
        exact h
      subst hme
      obtain ⟨m, hmm⟩ : ∃ x, ms[j]'(by omega) = x := ⟨_, rfl⟩
      rw [hmm] at hmr hmi hmw
      have HMM := Lib.hid hmm
      have HR := Lib.hid hmr
      have HMI := Lib.hid hmi
      have HMW := Lib.hid hmw
      have HSZ := Lib.hid (Try.sizeMsgOf m hmi.hd)
      have HTK := Lib.hid (take_any B c m wA HCA.out hmi (HOF.out m hmw))
      unfold TakePost at HTK
      clear hmr hmi hmw hmm
      go_wp2_with (refine wpList_load_mid (by rfl) 45 _ (by rfl) mg (mf + j * 53) (by rfl) m.cells _ HR.out Try.underlying45 rfl HSZ.out ?_)
      ((with_reducible refine HTK.out.mono ?_); rintro e w4 hr)
      rcases hr with ⟨hyes, y, bo, bc, rfl, hy, hs4, hk4, hc4⟩ | ⟨hno, rfl, hk4⟩
      case inl =>
        obtain ⟨yyo, yyc, rfl, _⟩ := id hy
        obtain ⟨ac1, hac1⟩ : ∃ x, (ansL m.ac m.an (.slice yyo m.ad.length yyc) (.slice bo m.ns.length bc)).toArray = x := ⟨_, rfl⟩
        rw [hac1]
        have HAC : Hid (ac1.size = 4 ∧ ac1.all (·.oneCell') = true) := Lib.hid (by rw [← hac1]; exact ⟨rfl, ansL_all _ _ _ _ _ _ _ _⟩)
        obtain ⟨w5, hw5⟩ : ∃ w5, (w4.alloc (.cells ansL0.toArray 41)).setRow w4.heap.size ac1 = w5 := ⟨_, rfl⟩
        have HW5 := Lib.hid hw5
        have HN5 : Hid ((w4.alloc (.cells ansL0.toArray 41)).heap[w4.heap.size]? = some (.cells ansL0.toArray 41 (0, 0))) := Lib.hid (heap_alloc_new w4 _)
        have hk45 : Same w4 w5 := by rw [← hw5]; exact ((Keeps.refl (fun _ => False) _).alloc _).setRow _ _ (.inl (Nat.le_refl _))
        have HIA : Hid ((Try.prog.info? 41).map (·.size) = some ac1.size) := Lib.hid (by rw [HAC.out.1]; exact Try.sizeAnsW)
        have HIZ : Hid (ansL0.toArray.size = ac1.size) := Lib.hid (by rw [HAC.out.1]; rfl)
        have HALA := Lib.hid HAC.out.2
        have HS4 := Lib.hid (keepsB HB.out HSA.out hk4)
        have HSB := Lib.hid (HS4.out.trans hk45 (fun _ _ e => e))
        have HCB := Lib.hid (hc4.same hk45)
        have HFB : Hid (c.rests.wt = false ∧ (c.rests.nr : Int) = (c.nr : Int) ∧ c.rests.id = 1 ∧ c.rests.nr ≤ j + 1) := Lib.hid ⟨rfl, rfl, HFA.out.2.2.1, HFA.out.2.2.2⟩
        obtain ⟨cB, hcB⟩ : ∃ x, c.rests = x := ⟨_, rfl⟩
        rw [hcB] at HFB HCB
        have HRW : Hid (w.rangeAt mg (mf + j * 53) m.cells) := Lib.hid (by
          obtain ⟨mg', mf', e', h', _⟩ := HM.out.at (j := j) (by omega)
          simp only [Option.some.injEq, Addr.mk.injEq, and_true] at e'
          obtain ⟨rfl, rfl⟩ := e'
          rwa [show ms[j]'(by omega) = m from HMM.out] at h')
        have l40 : w5.cell? ⟨mg, mf + j * 53 + 40, none⟩ = some (.int .u64 (m.nr : Int)) := cell_sameC (HRW.out 40 _ ((m.at_high HMI.out.hd 1).trans rfl)) HSB.out (fun e => e)
        have l39 : w5.cell? ⟨mg, mf + j * 53 + 39, none⟩ = some (.int .i64 m.cl) := cell_sameC (HRW.out 39 _ ((m.at_high HMI.out.hd 0).trans rfl)) HSB.out (fun e => e)
        have n1 : ((m.nr : Int) != (c.nr : Int)) = false := by have h1 := hyes.2.2.2.2; simp; omega
        have n2 : (m.cl != 1) = false := by have h1 := hyes.2.2.2.1; have h2 := HFA.out.2.2.1; simp; omega
        clear hy hs4 hk4 hc4 hk45 hw5 hac1 hcB hyes HTK
        have HWC := Lib.hid (waits_at B cB false w5 HCB.out HFB.out.1)
        go_wp2_with (refine wpList_store_row (by rfl) 41 _ _ (by rfl) w4.heap.size ac1 (by rfl) (by rfl) 41 ansL0.toArray HN5.out HIA.out HIZ.out HALA.out ?_; rw [HW5.out])
        ((with_reducible refine HWC.out.mono ?_); rintro e w8 ⟨rfl, hk8⟩)
        have HAK := Lib.hid (asked_no B cB w8 (HCB.out.same hk8) HFB.out.1)
        have HS8 := Lib.hid (HSB.out.trans hk8 (fun _ _ e => e))
        have HC8 := Lib.hid (HCB.out.same hk8)
        clear hk8
        go_wp2_with fail
        ((with_reducible refine HAK.out.mono ?_); rintro e w9 ⟨⟨ox, cx, rfl⟩, hk9⟩)
        have HS9 := Lib.hid (HS8.out.trans hk9 (fun _ _ e => e))
        have HC9 := Lib.hid (HC8.out.same hk9)
        clear hk9
        go_wp2_with fail
        go_roundw
        case rel => exact ⟨j + 1, false, cB, by have := HN.out; have := HLT.out; omega, by go_num, by rw [HFB.out.2.1], rfl, Lib.hid ⟨HFB.out.1, HFB.out.2.2⟩, HC9, HS9⟩
        case measure => have := HN.out; have := HLT.out; simp [intOf]; omega
      obtain ⟨w5, hw5⟩ : ∃ w5, (w4.alloc (.cells ansL0.toArray 41)).setRow w4.heap.size ansL0.toArray = w5 := ⟨_, rfl⟩
      have HW5 := Lib.hid hw5
      have HN5 : Hid ((w4.alloc (.cells ansL0.toArray 41)).heap[w4.heap.size]? = some (.cells ansL0.toArray 41 (0, 0))) := Lib.hid (heap_alloc_new w4 _)
      have hk45 : Same w4 w5 := by rw [← hw5]; exact ((Keeps.refl (fun _ => False) _).alloc _).setRow _ _ (.inl (Nat.le_refl _))
      have HS4 := Lib.hid (HSA.out.trans hk4 (fun _ _ e => e))
      have HSB := Lib.hid (HS4.out.trans hk45 (fun _ _ e => e))
      have HCB := Lib.hid ((HCA.out.same hk4).same hk45)
      have HFB := HFA
      clear hk4 hk45 hw5 hno HTK
      have HWC := Lib.hid (waits_at B c true w5 HCB.out HFB.out.1)
      go_wp2_with (refine wpList_store_row (by rfl) 41 _ _ (by rfl) w4.heap.size ansL0.toArray (by rfl) (by rfl) 41 ansL0.toArray HN5.out (by exact Try.sizeAnsW) rfl (ansL_all _ _ _ _ _ _ _ _) ?_; rw [HW5.out])
      ((with_reducible refine HWC.out.mono ?_); rintro e w8 ⟨rfl, hk8⟩)
      have HAK := Lib.hid (asked_yes B c w8 (HCB.out.same hk8) HFB.out.1 HFB.out.2.2.1)
      have HS8 := Lib.hid (HSB.out.trans hk8 (fun _ _ e => e))
      have HC8 := Lib.hid (HCB.out.same hk8)
      clear hk8
      go_wp2_with fail
      ((with_reducible refine HAK.out.mono ?_); rintro e w9 ⟨⟨ox, cx, rfl⟩, hk9⟩)
      have HS9 := Lib.hid (HS8.out.trans hk9 (fun _ _ e => e))
      have HC9 := Lib.hid (HC8.out.same hk9)
      clear hk9
      go_wp2_with fail
      go_roundw
      case rel => exact ⟨j + 1, true, c, by have := HN.out; have := HLT.out; omega, by go_num, rfl, rfl, Lib.hid ⟨HFB.out.1, HFB.out.2.2⟩, HC9, HS9⟩
      case measure => have := HN.out; have := HLT.out; simp [intOf]; omega
    | false =>
      by_cases qo : (j : Int) < (os.length : Int)
      case neg =>
        by_cases qe : (j : Int) < (ms.length : Int)
        case neg =>
          go_wp2_with fail
          go_ret
          exact ⟨rfl, HS.out⟩
        have HLT : Hid (j < os.length ∨ j < ms.length) := Lib.hid (by omega)
        have HSA := HS
        have HCA := HC
        have HFA : Hid (c.wt = false ∧ (c.nr : Int) = (c.nr : Int) ∧ c.id = 1 ∧ c.nr ≤ j + 1) := Lib.hid ⟨HF.out.1, rfl, HF.out.2.1, by have := HF.out.2.2; omega⟩
        obtain ⟨mg, mf, hme, hmr, hmi⟩ := (HM.out.same HSA.out).at (j := j) (by omega)
        have hmw : MsgIn w ms[j] := by
          obtain ⟨_, _, _, _, h⟩ := HM.out.at (j := j) (by omega)
          exact h
        subst hme
        obtain ⟨m, hmm⟩ : ∃ x, ms[j]'(by omega) = x := ⟨_, rfl⟩
        rw [hmm] at hmr hmi hmw
        have HMM := Lib.hid hmm
        have HR := Lib.hid hmr
        have HMI := Lib.hid hmi
        have HMW := Lib.hid hmw
        have HSZ := Lib.hid (Try.sizeMsgOf m hmi.hd)
        have HTK := Lib.hid (take_any B c m wr HCA.out hmi (HOF.out m hmw))
        unfold TakePost at HTK
        clear hmr hmi hmw hmm
        go_wp2_with (refine wpList_load_mid (by rfl) 45 _ (by rfl) mg (mf + j * 53) (by rfl) m.cells _ HR.out Try.underlying45 rfl HSZ.out ?_)
        ((with_reducible refine HTK.out.mono ?_); rintro e w4 hr)
        rcases hr with ⟨hyes, y, bo, bc, rfl, hy, hs4, hk4, hc4⟩ | ⟨hno, rfl, hk4⟩
        case inl =>
          have := hyes.1; rw [HFA.out.1] at this; cases this
        obtain ⟨w5, hw5⟩ : ∃ w5, (w4.alloc (.cells ansL0.toArray 41)).setRow w4.heap.size ansL0.toArray = w5 := ⟨_, rfl⟩
        have HW5 := Lib.hid hw5
        have HN5 : Hid ((w4.alloc (.cells ansL0.toArray 41)).heap[w4.heap.size]? = some (.cells ansL0.toArray 41 (0, 0))) := Lib.hid (heap_alloc_new w4 _)
        have hk45 : Same w4 w5 := by rw [← hw5]; exact ((Keeps.refl (fun _ => False) _).alloc _).setRow _ _ (.inl (Nat.le_refl _))
        have HS4 := Lib.hid (HSA.out.trans hk4 (fun _ _ e => e))
        have HSB := Lib.hid (HS4.out.trans hk45 (fun _ _ e => e))
        have HCB := Lib.hid ((HCA.out.same hk4).same hk45)
        have HFB := HFA
        clear hk4 hk45 hw5 hno HTK
        have HWC := Lib.hid (waits_at B c false w5 HCB.out HFB.out.1)
        go_wp2_with (refine wpList_store_row (by rfl) 41 _ _ (by rfl) w4.heap.size ansL0.toArray (by rfl) (by rfl) 41 ansL0.toArray HN5.out (by exact Try.sizeAnsW) rfl (ansL_all _ _ _ _ _ _ _ _) ?_; rw [HW5.out])
        ((with_reducible refine HWC.out.mono ?_); rintro e w8 ⟨rfl, hk8⟩)
        have HAK := Lib.hid (asked_no B c w8 (HCB.out.same hk8) HFB.out.1)
        have HS8 := Lib.hid (HSB.out.trans hk8 (fun _ _ e => e))
        have HC8 := Lib.hid (HCB.out.same hk8)
        clear hk8
        go_wp2_with fail
        ((with_reducible refine HAK.out.mono ?_); rintro e w9 ⟨⟨ox, cx, rfl⟩, hk9⟩)
        have HS9 := Lib.hid (HS8.out.trans hk9 (fun _ _ e => e))
        have HC9 := Lib.hid (HC8.out.same hk9)
        clear hk9
        go_wp2_with fail
        go_roundw
        case rel => exact ⟨j + 1, false, c, by have := HN.out; have := HLT.out; omega, by go_num, rfl, rfl, Lib.hid ⟨HFB.out.1, HFB.out.2.2⟩, HC9, HS9⟩
        case measure => have := HN.out; have := HLT.out; simp [intOf]; omega
      have HLT : Hid (j < os.length ∨ j < ms.length) := Lib.hid (by omega)
      obtain ⟨og, of, hoe, hor, hox⟩ := (HO.out.same HS.out).at (j := j) (by omega)
      have hxw : Reads w os[j].val os[j].ds := by
        obtain ⟨_, _, _, _, h⟩ := HO.out.at (j := j) (by omega)
        exact h
      subst hoe
      obtain ⟨x, hxx⟩ : ∃ x, os[j]'(by omega) = x := ⟨_, rfl⟩
      rw [hxx] at hor hox hxw
      obtain ⟨k, f, n, p, t, xo, xc, ds⟩ := x
      simp only [OpX.cells, OpX.val] at hor hox hxw
      have HOR := Lib.hid hor
      have HOX := Lib.hid hox
      have HXW := Lib.hid hxw
      clear hor hox hxw hxx
      by_cases hr : OpRight k f n p t ds.length
      case neg =>
        have HCL := Lib.hid (call_wrong B c k f n p t (.slice xo ds.length xc) ds wr HC.out HF.out.1 HOX.out hr)
        clear hr
        go_wp2_with (refine wpList_load_mid (by rfl) 32 _ (by rfl) og (of + j * 6) (by rfl) (opL k f n p t (.slice xo ds.length xc)) _ HOR.out Try.underlying32 rfl (by exact Try.sizeOpW) ?_)
        ((with_reducible refine HCL.out.mono ?_); rintro e wA ⟨rfl, hkA⟩)
        have HSA := Lib.hid (HS.out.trans hkA (fun _ _ e => e))
        have HCA := Lib.hid (HC.out.same hkA)
        clear hkA HCL
        have HFA : Hid (c.wt = false ∧ (c.nr : Int) = (c.nr : Int) ∧ c.id = 1 ∧ c.nr ≤ j + 1) := Lib.hid ⟨HF.out.1, rfl, HF.out.2.1, by have := HF.out.2.2; omega⟩
        by_cases qm : (j : Int) < (ms.length : Int)
        case neg =>
          have HCB := HCA
          have HSB := HSA
          have HFB := HFA
          have HWC := Lib.hid (waits_at B c false wA HCB.out HFB.out.1)
          go_wp2_with fail
          ((with_reducible refine HWC.out.mono ?_); rintro e w8 ⟨rfl, hk8⟩)
          have HAK := Lib.hid (asked_no B c w8 (HCB.out.same hk8) HFB.out.1)
          have HS8 := Lib.hid (HSB.out.trans hk8 (fun _ _ e => e))
          have HC8 := Lib.hid (HCB.out.same hk8)
          clear hk8
          go_wp2_with fail
          ((with_reducible refine HAK.out.mono ?_); rintro e w9 ⟨⟨ox, cx, rfl⟩, hk9⟩)
          have HS9 := Lib.hid (HS8.out.trans hk9 (fun _ _ e => e))
          have HC9 := Lib.hid (HC8.out.same hk9)
          clear hk9
          go_wp2_with fail
          go_roundw
          case rel => exact ⟨j + 1, false, c, by have := HN.out; have := HLT.out; omega, by go_num, rfl, rfl, Lib.hid ⟨HFB.out.1, HFB.out.2.2⟩, HC9, HS9⟩
          case measure => have := HN.out; have := HLT.out; simp [intOf]; omega
        obtain ⟨mg, mf, hme, hmr, hmi⟩ := (HM.out.same HSA.out).at (j := j) (by omega)
        have hmw : MsgIn w ms[j] := by
          obtain ⟨_, _, _, _, h⟩ := HM.out.at (j := j) (by omega)
          exact h
        subst hme
        obtain ⟨m, hmm⟩ : ∃ x, ms[j]'(by omega) = x := ⟨_, rfl⟩
        rw [hmm] at hmr hmi hmw
        have HMM := Lib.hid hmm
        have HR := Lib.hid hmr
        have HMI := Lib.hid hmi
        have HMW := Lib.hid hmw
        have HSZ := Lib.hid (Try.sizeMsgOf m hmi.hd)
        have HTK := Lib.hid (take_any B c m wA HCA.out hmi (HOF.out m hmw))
        unfold TakePost at HTK
        clear hmr hmi hmw hmm
        go_wp2_with (refine wpList_load_mid (by rfl) 45 _ (by rfl) mg (mf + j * 53) (by rfl) m.cells _ HR.out Try.underlying45 rfl HSZ.out ?_)
        ((with_reducible refine HTK.out.mono ?_); rintro e w4 hr)
        rcases hr with ⟨hyes, y, bo, bc, rfl, hy, hs4, hk4, hc4⟩ | ⟨hno, rfl, hk4⟩
        case inl =>
          have := hyes.1; rw [HFA.out.1] at this; cases this
        obtain ⟨w5, hw5⟩ : ∃ w5, (w4.alloc (.cells ansL0.toArray 41)).setRow w4.heap.size ansL0.toArray = w5 := ⟨_, rfl⟩
        have HW5 := Lib.hid hw5
        have HN5 : Hid ((w4.alloc (.cells ansL0.toArray 41)).heap[w4.heap.size]? = some (.cells ansL0.toArray 41 (0, 0))) := Lib.hid (heap_alloc_new w4 _)
        have hk45 : Same w4 w5 := by rw [← hw5]; exact ((Keeps.refl (fun _ => False) _).alloc _).setRow _ _ (.inl (Nat.le_refl _))
        have HS4 := Lib.hid (HSA.out.trans hk4 (fun _ _ e => e))
        have HSB := Lib.hid (HS4.out.trans hk45 (fun _ _ e => e))
        have HCB := Lib.hid ((HCA.out.same hk4).same hk45)
        have HFB := HFA
        clear hk4 hk45 hw5 hno HTK
        have HWC := Lib.hid (waits_at B c false w5 HCB.out HFB.out.1)
        go_wp2_with (refine wpList_store_row (by rfl) 41 _ _ (by rfl) w4.heap.size ansL0.toArray (by rfl) (by rfl) 41 ansL0.toArray HN5.out (by exact Try.sizeAnsW) rfl (ansL_all _ _ _ _ _ _ _ _) ?_; rw [HW5.out])
        ((with_reducible refine HWC.out.mono ?_); rintro e w8 ⟨rfl, hk8⟩)
        have HAK := Lib.hid (asked_no B c w8 (HCB.out.same hk8) HFB.out.1)
        have HS8 := Lib.hid (HSB.out.trans hk8 (fun _ _ e => e))
        have HC8 := Lib.hid (HCB.out.same hk8)
        clear hk8
        go_wp2_with fail
        ((with_reducible refine HAK.out.mono ?_); rintro e w9 ⟨⟨ox, cx, rfl⟩, hk9⟩)
        have HS9 := Lib.hid (HS8.out.trans hk9 (fun _ _ e => e))
        have HC9 := Lib.hid (HC8.out.same hk9)
        clear hk9
        go_wp2_with fail
        go_roundw
        case rel => exact ⟨j + 1, false, c, by have := HN.out; have := HLT.out; omega, by go_num, rfl, rfl, Lib.hid ⟨HFB.out.1, HFB.out.2.2⟩, HC9, HS9⟩
        case measure => have := HN.out; have := HLT.out; simp [intOf]; omega
      have HCL := Lib.hid (call_right B c k f n p t (.slice xo ds.length xc) ds wr HC.out HF.out.1 (by have := HF.out; omega) HOX.out (fun a n' c' e h0 => by
        simp only [Value.slice.injEq] at e
        have h1 := reads_low HXW.out a e.1 h0
        have h2 := HB.out
        omega) hr)
      unfold CallPost at HCL
      clear hr
      go_wp2_with (refine wpList_load_mid (by rfl) 32 _ (by rfl) og (of + j * 6) (by rfl) (opL k f n p t (.slice xo ds.length xc)) _ HOR.out Try.underlying32 rfl (by exact Try.sizeOpW) ?_)
      ((with_reducible refine HCL.out.mono ?_); rintro e wA ⟨rfl, hkA, yo, yc, hcA⟩)
      have HSA := Lib.hid (keepsB HB.out HS.out hkA)
      have HCA := Lib.hid hcA
      have HFA : Hid ((c.asks k f n p t yo yc ds).wt = true ∧ ((c.asks k f n p t yo yc ds).nr : Int) = (c.nr : Int) + 1 ∧ (c.asks k f n p t yo yc ds).id = 1 ∧ (c.asks k f n p t yo yc ds).nr ≤ j + 1) := Lib.hid ⟨rfl, by simp [Cl.asks], HF.out.2.1, by have := HF.out.2.2; simp [Cl.asks]; omega⟩
      obtain ⟨cA, hcA'⟩ : ∃ x, c.asks k f n p t yo yc ds = x := ⟨_, rfl⟩
      rw [hcA'] at HFA HCA
      clear hkA hcA hcA' HCL
      by_cases qm : (j : Int) < (ms.length : Int)
      case neg =>
        have HCB := HCA
        have HSB := HSA
        have HFB := HFA
        have HWC := Lib.hid (waits_at B cA true wA HCB.out HFB.out.1)
        go_wp2_with fail
        ((with_reducible refine HWC.out.mono ?_); rintro e w8 ⟨rfl, hk8⟩)
        have HAK := Lib.hid (asked_yes B cA w8 (HCB.out.same hk8) HFB.out.1 HFB.out.2.2.1)
        have HS8 := Lib.hid (HSB.out.trans hk8 (fun _ _ e => e))
        have HC8 := Lib.hid (HCB.out.same hk8)
        clear hk8
        go_wp2_with fail
        ((with_reducible refine HAK.out.mono ?_); rintro e w9 ⟨⟨ox, cx, rfl⟩, hk9⟩)
        have HS9 := Lib.hid (HS8.out.trans hk9 (fun _ _ e => e))
        have HC9 := Lib.hid (HC8.out.same hk9)
        clear hk9
        go_wp2_with fail
        go_roundw
        case rel => exact ⟨j + 1, true, cA, by have := HN.out; have := HLT.out; omega, by go_num, by rw [HFB.out.2.1], rfl, Lib.hid ⟨HFB.out.1, HFB.out.2.2⟩, HC9, HS9⟩
        case measure => have := HN.out; have := HLT.out; simp [intOf]; omega
      obtain ⟨mg, mf, hme, hmr, hmi⟩ := (HM.out.same HSA.out).at (j := j) (by omega)
      have hmw : MsgIn w ms[j] := by
        obtain ⟨_, _, _, _, h⟩ := HM.out.at (j := j) (by omega)
        exact h
      subst hme
      obtain ⟨m, hmm⟩ : ∃ x, ms[j]'(by omega) = x := ⟨_, rfl⟩
      rw [hmm] at hmr hmi hmw
      have HMM := Lib.hid hmm
      have HR := Lib.hid hmr
      have HMI := Lib.hid hmi
      have HMW := Lib.hid hmw
      have HSZ := Lib.hid (Try.sizeMsgOf m hmi.hd)
      have HTK := Lib.hid (take_any B cA m wA HCA.out hmi (HOF.out m hmw))
      unfold TakePost at HTK
      clear hmr hmi hmw hmm
      go_wp2_with (refine wpList_load_mid (by rfl) 45 _ (by rfl) mg (mf + j * 53) (by rfl) m.cells _ HR.out Try.underlying45 rfl HSZ.out ?_)
      ((with_reducible refine HTK.out.mono ?_); rintro e w4 hr)
      rcases hr with ⟨hyes, y, bo, bc, rfl, hy, hs4, hk4, hc4⟩ | ⟨hno, rfl, hk4⟩
      case inl =>
        obtain ⟨yyo, yyc, rfl, _⟩ := id hy
        obtain ⟨ac1, hac1⟩ : ∃ x, (ansL m.ac m.an (.slice yyo m.ad.length yyc) (.slice bo m.ns.length bc)).toArray = x := ⟨_, rfl⟩
        rw [hac1]
        have HAC : Hid (ac1.size = 4 ∧ ac1.all (·.oneCell') = true) := Lib.hid (by rw [← hac1]; exact ⟨rfl, ansL_all _ _ _ _ _ _ _ _⟩)
        obtain ⟨w5, hw5⟩ : ∃ w5, (w4.alloc (.cells ansL0.toArray 41)).setRow w4.heap.size ac1 = w5 := ⟨_, rfl⟩
        have HW5 := Lib.hid hw5
        have HN5 : Hid ((w4.alloc (.cells ansL0.toArray 41)).heap[w4.heap.size]? = some (.cells ansL0.toArray 41 (0, 0))) := Lib.hid (heap_alloc_new w4 _)
        have hk45 : Same w4 w5 := by rw [← hw5]; exact ((Keeps.refl (fun _ => False) _).alloc _).setRow _ _ (.inl (Nat.le_refl _))
        have HIA : Hid ((Try.prog.info? 41).map (·.size) = some ac1.size) := Lib.hid (by rw [HAC.out.1]; exact Try.sizeAnsW)
        have HIZ : Hid (ansL0.toArray.size = ac1.size) := Lib.hid (by rw [HAC.out.1]; rfl)
        have HALA := Lib.hid HAC.out.2
        have HS4 := Lib.hid (keepsB HB.out HSA.out hk4)
        have HSB := Lib.hid (HS4.out.trans hk45 (fun _ _ e => e))
        have HCB := Lib.hid (hc4.same hk45)
        have HFB : Hid (cA.rests.wt = false ∧ (cA.rests.nr : Int) = ((c.nr : Int) + 1) ∧ cA.rests.id = 1 ∧ cA.rests.nr ≤ j + 1) := Lib.hid ⟨rfl, HFA.out.2.1, HFA.out.2.2.1, HFA.out.2.2.2⟩
        obtain ⟨cB, hcB⟩ : ∃ x, cA.rests = x := ⟨_, rfl⟩
        rw [hcB] at HFB HCB
        have HRW : Hid (w.rangeAt mg (mf + j * 53) m.cells) := Lib.hid (by
          obtain ⟨mg', mf', e', h', _⟩ := HM.out.at (j := j) (by omega)
          simp only [Option.some.injEq, Addr.mk.injEq, and_true] at e'
          obtain ⟨rfl, rfl⟩ := e'
          rwa [show ms[j]'(by omega) = m from HMM.out] at h')
        have l40 : w5.cell? ⟨mg, mf + j * 53 + 40, none⟩ = some (.int .u64 (m.nr : Int)) := cell_sameC (HRW.out 40 _ ((m.at_high HMI.out.hd 1).trans rfl)) HSB.out (fun e => e)
        have l39 : w5.cell? ⟨mg, mf + j * 53 + 39, none⟩ = some (.int .i64 m.cl) := cell_sameC (HRW.out 39 _ ((m.at_high HMI.out.hd 0).trans rfl)) HSB.out (fun e => e)
        have n1 : ((m.nr : Int) != ((c.nr : Int) + 1)) = false := by have h1 := hyes.2.2.2.2; have h2 := HFA.out.2.1; simp; omega
        have n2 : (m.cl != 1) = false := by have h1 := hyes.2.2.2.1; have h2 := HFA.out.2.2.1; simp; omega
        clear hy hs4 hk4 hc4 hk45 hw5 hac1 hcB hyes HTK
        have HWC := Lib.hid (waits_at B cB false w5 HCB.out HFB.out.1)
        go_wp2_with (refine wpList_store_row (by rfl) 41 _ _ (by rfl) w4.heap.size ac1 (by rfl) (by rfl) 41 ansL0.toArray HN5.out HIA.out HIZ.out HALA.out ?_; rw [HW5.out])
        ((with_reducible refine HWC.out.mono ?_); rintro e w8 ⟨rfl, hk8⟩)
        have HAK := Lib.hid (asked_no B cB w8 (HCB.out.same hk8) HFB.out.1)
        have HS8 := Lib.hid (HSB.out.trans hk8 (fun _ _ e => e))
        have HC8 := Lib.hid (HCB.out.same hk8)
        clear hk8
        go_wp2_with fail
        ((with_reducible refine HAK.out.mono ?_); rintro e w9 ⟨⟨ox, cx, rfl⟩, hk9⟩)
        have HS9 := Lib.hid (HS8.out.trans hk9 (fun _ _ e => e))
        have HC9 := Lib.hid (HC8.out.same hk9)
        clear hk9
        go_wp2_with fail
        go_roundw
        case rel => exact ⟨j + 1, false, cB, by have := HN.out; have := HLT.out; omega, by go_num, by rw [HFB.out.2.1], rfl, Lib.hid ⟨HFB.out.1, HFB.out.2.2⟩, HC9, HS9⟩
        case measure => have := HN.out; have := HLT.out; simp [intOf]; omega
      obtain ⟨w5, hw5⟩ : ∃ w5, (w4.alloc (.cells ansL0.toArray 41)).setRow w4.heap.size ansL0.toArray = w5 := ⟨_, rfl⟩
      have HW5 := Lib.hid hw5
      have HN5 : Hid ((w4.alloc (.cells ansL0.toArray 41)).heap[w4.heap.size]? = some (.cells ansL0.toArray 41 (0, 0))) := Lib.hid (heap_alloc_new w4 _)
      have hk45 : Same w4 w5 := by rw [← hw5]; exact ((Keeps.refl (fun _ => False) _).alloc _).setRow _ _ (.inl (Nat.le_refl _))
      have HS4 := Lib.hid (HSA.out.trans hk4 (fun _ _ e => e))
      have HSB := Lib.hid (HS4.out.trans hk45 (fun _ _ e => e))
      have HCB := Lib.hid ((HCA.out.same hk4).same hk45)
      have HFB := HFA
      clear hk4 hk45 hw5 hno HTK
      have HWC := Lib.hid (waits_at B cA true w5 HCB.out HFB.out.1)
      go_wp2_with (refine wpList_store_row (by rfl) 41 _ _ (by rfl) w4.heap.size ansL0.toArray (by rfl) (by rfl) 41 ansL0.toArray HN5.out (by exact Try.sizeAnsW) rfl (ansL_all _ _ _ _ _ _ _ _) ?_; rw [HW5.out])
      ((with_reducible refine HWC.out.mono ?_); rintro e w8 ⟨rfl, hk8⟩)
      have HAK := Lib.hid (asked_yes B cA w8 (HCB.out.same hk8) HFB.out.1 HFB.out.2.2.1)
      have HS8 := Lib.hid (HSB.out.trans hk8 (fun _ _ e => e))
      have HC8 := Lib.hid (HCB.out.same hk8)
      clear hk8
      go_wp2_with fail
      ((with_reducible refine HAK.out.mono ?_); rintro e w9 ⟨⟨ox, cx, rfl⟩, hk9⟩)
      have HS9 := Lib.hid (HS8.out.trans hk9 (fun _ _ e => e))
      have HC9 := Lib.hid (HC8.out.same hk9)
      clear hk9
      go_wp2_with fail
      go_roundw
      case rel => exact ⟨j + 1, true, cA, by have := HN.out; have := HLT.out; omega, by go_num, by rw [HFB.out.2.1], rfl, Lib.hid ⟨HFB.out.1, HFB.out.2.2⟩, HC9, HS9⟩
      case measure => have := HN.out; have := HLT.out; simp [intOf]; omega
end Go.Proofs.Ytlglkkoippoafaa
