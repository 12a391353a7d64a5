/- (*client.Client).Ask. -/
import Derived.Test.YtlglkkoippoafaaCl4
import Derived.Test.YtlglkkoippoafaaPlan5
import Derived.Test.YtlglkkoippoafaaArr
namespace Go.Proofs.Ytlglkkoippoafaa
open Go.RowKit
set_option linter.unusedVariables false

theorem ClAt.callR {w : World} {B : Nat} {c : Cl} (h : ClAt w B c) : w.rangeAt B 0 c.call := fun j v hj => by
  have hl : j < 8 := (List.getElem?_eq_some_iff.1 hj).1
  rw [Nat.zero_add]
  refine h.wh.cell ?_
  have e : c.cells = c.call ++ [.bool c.wt] := rfl
  rw [e, List.getElem?_append_left (by simpa [Cl.call, callL] using hl)]
  exact hj
def CallV (c : Cl) (lo : Nat) (w : World) (v : Value) : Prop := ∃ yo yc, v = .agg (callL c.id c.nr c.k c.off c.n c.p c.t (.slice yo c.ds.length yc)).toArray ∧ Reads w (.slice yo c.ds.length yc) c.ds ∧ FarFrom lo (.slice yo c.ds.length yc) c.ds
theorem CallV.keep (c : Cl) (Sx : Nat → Prop) (lo : Nat) (w w' : World) (v : Value) (hS : ∀ k, Sx k → k < lo) (h : CallV c lo w v) (k : Keeps Sx w w') : CallV c lo w' v := by
  obtain ⟨yo, yc, e, h1, h2⟩ := h
  exact ⟨yo, yc, e, h1.far h2 k hS, h2⟩
def MsgV (c : Cl) (i : Nat) (lo : Nat) (w : World) (v : Value) : Prop := ∃ yo yc, v = .agg (askM c i yo yc).cells.toArray ∧ Reads w (.slice yo c.ds.length yc) c.ds ∧ FarFrom lo (.slice yo c.ds.length yc) c.ds
theorem MsgV.keep (c : Cl) (i : Nat) (Sx : Nat → Prop) (lo : Nat) (w w' : World) (v : Value) (hS : ∀ k, Sx k → k < lo) (h : MsgV c i lo w v) (k : Keeps Sx w w') : MsgV c i lo w' v := by
  obtain ⟨yo, yc, e, h1, h2⟩ := h
  exact ⟨yo, yc, e, h1.far h2 k hS, h2⟩
def MsgL (c : Cl) (i : Nat) (lo : Nat) (w : World) (v : Value) : Prop := ∃ G yo yc, v = .slice (some ⟨G, 0, none⟩) 1 1 ∧ lo ≤ G ∧ w.heap[G]? = some (.cells (askM c i yo yc).cells.toArray 45 (0, 0)) ∧ Reads w (.slice yo c.ds.length yc) c.ds ∧ FarFrom lo (.slice yo c.ds.length yc) c.ds
theorem MsgL.keep (c : Cl) (i : Nat) (Sx : Nat → Prop) (lo : Nat) (w w' : World) (v : Value) (hS : ∀ k, Sx k → k < lo) (h : MsgL c i lo w v) (k : Keeps Sx w w') : MsgL c i lo w' v := by
  obtain ⟨G, yo, yc, e, hG, hl, h1, h2⟩ := h
  exact ⟨G, yo, yc, e, hG, k.obj hl (fun e => by have := hS _ e; omega), h1.far h2 k hS, h2⟩
def AskE (base : Nat) (tv : Value) (c : Cl) (ms : List Msg) : Nat → Value → World → Prop
  | 0, _, w => MRow base w tv ms
  | _ + 1, v, w => ∃ g cap yo yc, v = .slice (some ⟨g, 0, none⟩) (ms.length + 1) cap ∧ MRow base w v (ms ++ [askM c ms.length yo yc])
theorem AskE.same {base : Nat} {tv : Value} {c : Cl} {ms : List Msg} (q : Nat) (v : Value) (w w' : World) (h : AskE base tv c ms q v w) (k : Same w w') : AskE base tv c ms q v w' := by
  cases q with
  | zero => exact MRow.same h k
  | succ q =>
    obtain ⟨g, cp, yo, yc, e, h1⟩ := h
    exact ⟨g, cp, yo, yc, e, h1.same k⟩
theorem built_ask (c : Cl) (i : Nat) (yo : Option Addr) (yc : Nat) : Try.prog.built 45 [(0, .int .i64 1), (1, .int .i64 (100 + c.id)), (2, .int .i64 (i : Int)), (8, .agg (callL c.id c.nr c.k c.off c.n c.p c.t (.slice yo c.ds.length yc)).toArray)] = some (askM c i yo yc).cells.toArray := by
  kernel_rfl
/-- What Ask gives. -/
def AskPost (w : World) (c : Cl) (N : Nat) (e : Ending) (w' : World) : Prop := ∃ v ms, e = .returned v ∧ MRow w.heap.size w' v ms ∧ AskAll c ms ∧ ms.length = N ∧ Same w w'

set_option maxRecDepth 100000 in
set_option maxHeartbeats 3200000 in
theorem ask_rest (B : Nat) (c : Cl) (nodes : Int) (w : World) (h : ClAt w B c) (hw : c.wt = false) : Calls Try.prog 13 #[.pointer (some ⟨B, 0, none⟩), .int .i64 nodes] w (AskPost w c 0) := by
  have b8 : w.cell? ⟨B, 8, none⟩ = some (.bool false) := by
    have := h.wh.cell (i := 8) rfl
    rwa [hw] at this
  clear h
  go_enter Try.func13, Try.ntmps13
  go_wp2
  go_ret
  exact ⟨_, [], rfl, MRow.nil _ _, fun j h => by simp at h, rfl, Keeps.refl _ _⟩

set_option maxRecDepth 100000 in
set_option maxHeartbeats 12800000 in
theorem ask_any (B : Nat) (c : Cl) (nodes : Int) (N : Nat) (hN : (N : Int) = max 0 (min nodes 7)) (w : World) (h : ClAt w B c) (hw : c.wt = true) (hid : 0 ≤ c.id ∧ c.id ≤ 3) : Calls Try.prog 13 #[.pointer (some ⟨B, 0, none⟩), .int .i64 nodes] w (AskPost w c N) := by
  have HC := Lib.hid h
  obtain ⟨ie, hie, hz0, hz1, hz2⟩ := info_partsV Try.infoMsgR
  have HZ := Lib.hid hz0
  have b8 : w.cell? ⟨B, 8, none⟩ = some (.bool true) := by
    have := h.wh.cell (i := 8) rfl
    rwa [hw] at this
  have HWJ : Hid (IntKind.i64.wrap (100 + c.id) = 100 + c.id) := Lib.hid (IntWalk.i64_in _ (by omega))
  have hN7 : N ≤ 7 := by omega
  clear h hz0 hw hid
  by_cases q1 : nodes < 0
  · have hn0 : N = 0 := by omega
    have q2 : nodes ≤ 7 := by omega
    clear hN
    go_enter Try.func13, Try.ntmps13
    go_wp2
    clear b8
    go_loopw [5, 15] (fun tv i wr => ∃ j : Nat, j ≤ N ∧ i = .int .i64 j ∧ ∃ ms, Hid (List.length ms = j) ∧ Hid (MRow w.heap.size wr tv ms) ∧ Hid (AskAll c ms) ∧ Hid (Same w wr)) (fun _ i _ => N - (intOf i).toNat)
    case atStart => exact ⟨0, by omega, rfl, [], Lib.hid rfl, Lib.hid (MRow.nil _ _), Lib.hid (fun j h => by simp at h), Lib.hid (Keeps.refl _ _)⟩
    case round =>
      obtain ⟨j, hj, rfl, ms, HLM, HR, HA, HS⟩ := hrel
      by_cases hlt : j < N
      · exact absurd hlt (by omega)
      · obtain rfl : j = N := by omega
        have hjn : ¬ (j : Int) < 0 := by omega
        go_wp2
        go_ret
        exact ⟨_, ms, rfl, HR.out, HA.out, by have := HLM.out; omega, HS.out⟩
  by_cases q2 : nodes ≤ 7
  · obtain rfl : nodes = (N : Int) := by omega
    clear hN
    go_enter Try.func13, Try.ntmps13
    go_wp2
    clear b8
    go_loopw [5, 15] (fun tv i wr => ∃ j : Nat, j ≤ N ∧ i = .int .i64 j ∧ ∃ ms, Hid (List.length ms = j) ∧ Hid (MRow w.heap.size wr tv ms) ∧ Hid (AskAll c ms) ∧ Hid (Same w wr)) (fun _ i _ => N - (intOf i).toNat)
    case atStart => exact ⟨0, by omega, rfl, [], Lib.hid rfl, Lib.hid (MRow.nil _ _), Lib.hid (fun j h => by simp at h), Lib.hid (Keeps.refl _ _)⟩
    case round =>
      obtain ⟨j, hj, rfl, ms, HLM, HR, HA, HS⟩ := hrel
      by_cases hlt : j < N
      · obtain rfl : j = List.length ms := HLM.out.symm
        have hjn : ((List.length ms : Nat) : Int) < (N : Int) := by omega
        obtain ⟨tv, rfl⟩ : ∃ v, v = u5 := ⟨_, rfl⟩
        have HBS : Hid (w.heap.size ≤ wr.heap.size) := Lib.hid HS.out.size
        have HKB : Hid (∀ k, tv.ownBlock = some k → k < wr.heap.size) := Lib.hid (fun k e => (HR.out.own.lt k e).2)
        have HCK : Hid (∀ w', Keeps (fun k => tv.ownBlock = some k) wr w' → ClAt w' B c) := Lib.hid (fun w' k => by
          have h0 := HC.out.same HS.out
          have hlo : ∀ q, tv.ownBlock = some q → w.heap.size ≤ q := fun q e => (HR.out.own.lt q e).1
          refine ⟨h0.wh.keep k (fun e => by have := hlo _ e; have := HC.out.wh.lt; omega), reads_off h0.rd k (fun pa e hne e2 => ?_), h0.far, h0.nr, h0.len⟩
          obtain ⟨_, _, _, h7, _⟩ := HC.out.rd
          rw [e] at h7
          have h8 := h7.lt hne
          have h9 := hlo _ e2
          omega)
        have HOF : Hid (∀ yo yc, FarFrom wr.heap.size (.slice yo c.ds.length yc) c.ds → OpFar w.heap.size tv.ownBlock (askM c ms.length yo yc)) := Lib.hid (fun yo yc hf pa e h0 => by
          have h1 := (hf pa c.ds.length yc (by simp only [askM] at e; rw [e]) h0).2
          refine ⟨fun e2 => ?_, by have := HBS.out; omega⟩
          have := HKB.out _ e2
          omega)
        go_wp2
        refine wp_region_hand [[], [], [1], [2], [3], [4], [5], [], [], [8], [9], [10], [11], [6, 7, 12], [13], [0, 14, 12], [15, 15, 0, 1, 2, 3, 4, 5, 6, 7, 8, 9, 10, 11, 12, 13, 14, 15]]
          [some 18, some 19, some 20, some 21, some 22, some 23, some 24, some 25, some 26, some 27, some 28, some 29, some 30, some 31, some 32, some 33, some 5]
          [.is (tv), .is (.pointer (some ⟨B, 0, none⟩)), .is (.pointer (some ⟨B, 0, none⟩)), .is (.pointer (some ⟨B, 0, none⟩)), .is (.pointer (some ⟨B, 0, none⟩)), .is (.int .i64 c.id), .is (.int .i64 (100 + c.id)), .is (.int .i64 (ms.length : Int)), .is (.pointer (some ⟨B, 0, none⟩)), .is (.pointer (some ⟨B, 0, none⟩)), .is (.pointer (some ⟨B, 0, none⟩)), .is (.agg c.call.toArray), .ex (CallV c) (CallV.keep c), .ex (MsgV c ms.length) (MsgV.keep c ms.length), .ex (MsgL c ms.length) (MsgL.keep c ms.length), .any, .any]
          (fun k => tv.ownBlock = some k) [15] (AskE w.heap.size tv c ms) 7 _ _ 36 16 17 (by kernel_rfl) (by rfl) (by rfl) (by omega) (by kernel_rfl) (by kernel_rfl) (by decide) (by decide) (fun k e => HKB.out k e) HR.out AskE.same ?_ ?_
        · refine ⟨?_, ?_, ?_, ?_, ?_, ?_, ?_, ?_, ?_, ?_, ?_, ?_, ?_, ?_, ?_, ?_, trivial⟩
          · intro a w' K hs' hdep hfr hK
            have f5 := hfr 5 (by decide)
            exact plan_do (by rfl) (plan_yield (i := 0) (V := fun _ _ v => v = (tv : Value)) (tv) (by go_simp) rfl hK)
          · intro a w' K hs' hdep hfr hK
            have f0 := hfr 0 (by decide)
            exact plan_do (by rfl) (plan_yield (i := 1) (V := fun _ _ v => v = (.pointer (some ⟨B, 0, none⟩) : Value)) (.pointer (some ⟨B, 0, none⟩)) (by go_simp) rfl hK)
          · intro a w' K hs' hdep hfr hK
            have e19 : a.tmps[19]?.getD undef = (.pointer (some ⟨B, 0, none⟩)) := hdep 1 (by decide) 19 rfl
            exact plan_do (by rfl) (plan_yield (i := 2) (V := fun _ _ v => v = (.pointer (some ⟨B, 0, none⟩) : Value)) (.pointer (some ⟨B, 0, none⟩)) (by go_simp) rfl hK)
          · intro a w' K hs' hdep hfr hK
            have e20 : a.tmps[20]?.getD undef = (.pointer (some ⟨B, 0, none⟩)) := hdep 2 (by decide) 20 rfl
            exact plan_do (by rfl) (plan_yield (i := 3) (V := fun _ _ v => v = (.pointer (some ⟨B, 0, none⟩) : Value)) (.pointer (some ⟨B, 0, none⟩)) (by go_simp) rfl hK)
          · intro a w' K hs' hdep hfr hK
            have e21 : a.tmps[21]?.getD undef = (.pointer (some ⟨B, 0, none⟩)) := hdep 3 (by decide) 21 rfl
            exact plan_do (by rfl) (plan_yield (i := 4) (V := fun _ _ v => v = (.pointer (some ⟨B, 0, none⟩) : Value)) (.pointer (some ⟨B, 0, none⟩)) (by go_simp) rfl hK)
          · intro a w' K hs' hdep hfr hK
            have e22 : a.tmps[22]?.getD undef = (.pointer (some ⟨B, 0, none⟩)) := hdep 4 (by decide) 22 rfl
            have cl := (HCK.out _ hs').wh.cell (i := 0) rfl
            exact plan_do (by rfl) (plan_yield (i := 5) (V := fun _ _ v => v = (.int .i64 c.id : Value)) (.int .i64 c.id) (by go_simp) rfl hK)
          · intro a w' K hs' hdep hfr hK
            have e23 : a.tmps[23]?.getD undef = (.int .i64 c.id) := hdep 5 (by decide) 23 rfl
            have wj := HWJ.out
            exact plan_do (by rfl) (plan_yield (i := 6) (V := fun _ _ v => v = (.int .i64 (100 + c.id) : Value)) (.int .i64 (100 + c.id)) (by go_simp) rfl hK)
          · intro a w' K hs' hdep hfr hK
            have f6 := hfr 6 (by decide)
            exact plan_do (by rfl) (plan_yield (i := 7) (V := fun _ _ v => v = (.int .i64 (ms.length : Int) : Value)) (.int .i64 (ms.length : Int)) (by go_simp) rfl hK)
          · intro a w' K hs' hdep hfr hK
            have f0 := hfr 0 (by decide)
            exact plan_do (by rfl) (plan_yield (i := 8) (V := fun _ _ v => v = (.pointer (some ⟨B, 0, none⟩) : Value)) (.pointer (some ⟨B, 0, none⟩)) (by go_simp) rfl hK)
          · intro a w' K hs' hdep hfr hK
            have e26 : a.tmps[26]?.getD undef = (.pointer (some ⟨B, 0, none⟩)) := hdep 8 (by decide) 26 rfl
            exact plan_do (by rfl) (plan_yield (i := 9) (V := fun _ _ v => v = (.pointer (some ⟨B, 0, none⟩) : Value)) (.pointer (some ⟨B, 0, none⟩)) (by go_simp) rfl hK)
          · intro a w' K hs' hdep hfr hK
            have e27 : a.tmps[27]?.getD undef = (.pointer (some ⟨B, 0, none⟩)) := hdep 9 (by decide) 27 rfl
            exact plan_do (by rfl) (plan_yield (i := 10) (V := fun _ _ v => v = (.pointer (some ⟨B, 0, none⟩) : Value)) (.pointer (some ⟨B, 0, none⟩)) (by go_simp) rfl hK)
          · intro a w' K hs' hdep hfr hK
            have e28 : a.tmps[28]?.getD undef = (.pointer (some ⟨B, 0, none⟩)) := hdep 10 (by decide) 28 rfl
            exact plan_do (by rfl) (wp_load_mid (P := Try.prog) 38 (.tmp 28) rfl B 0 ((eval_tmp _ _).trans e28) c.call _ (HCK.out _ hs').callR Try.underlying38 rfl (by exact Try.sizeCallW) (hK _ _ (Keeps.refl _ _) rfl))
          · intro a w' K hs' hdep hfr hK
            have e29 : a.tmps[29]?.getD undef = (.agg c.call.toArray) := hdep 11 (by decide) 29 rfl
            refine plan_do (by rfl) (plan_call 23 #[.agg c.call.toArray] (by go_simp) ?_)
            exact (twinCall_any c.id c.nr c.k c.off c.n c.p c.t _ c.ds w' (HCK.out _ hs').rd (by have := HC.out.len; omega)).mono fun e w'' ⟨hk, y, he, hy, hf⟩ => by
              obtain ⟨yo, yc, rfl, _⟩ := id hy
              exact ⟨_, he, hK _ _ hk ⟨yo, yc, rfl, hy, hf.le hs'.size⟩⟩
          · intro a w' K hs' hdep hfr hK
            have e24 : a.tmps[24]?.getD undef = (.int .i64 (100 + c.id)) := hdep 6 (by decide) 24 rfl
            have e25 : a.tmps[25]?.getD undef = (.int .i64 (ms.length : Int)) := hdep 7 (by decide) 25 rfl
            obtain ⟨yo, yc, e30, hy, hf⟩ : CallV c wr.heap.size w' (a.tmps[30]?.getD undef) := hdep 12 (by decide) 30 rfl
            refine plan_do (by rfl) (plan_build 45 #[(0, .const (.int .i64 1)), (1, .tmp 24), (2, .tmp 25), (8, .tmp 30)] rfl (askM c ms.length yo yc).cells.toArray ?_ (hK _ _ (Keeps.refl _ _) ⟨yo, yc, rfl, hy, hf⟩))
            simp only [List.map_toArray, List.map_cons, List.map_nil, eval_tmp, e24, e25, e30]
            exact built_ask c ms.length yo yc
          · intro a w' K hs' hdep hfr hK
            obtain ⟨yo, yc, e31, hy, hf⟩ : MsgV c ms.length wr.heap.size w' (a.tmps[31]?.getD undef) := hdep 13 (by decide) 31 rfl
            have hcl : (askM c ms.length yo yc).cells.toArray.size = 53 := by rw [List.size_toArray]; exact (askM c ms.length yo yc).cells_length rfl
            exact plan_do (by rfl) (wp_buildOne 55 45 (.tmp 31) rfl (askM c ms.length yo yc).cells.toArray ie _ ((eval_tmp _ _).trans e31) Try.underlying55 hie HZ.out (by rw [hz1, hcl]) (by rw [hcl]; omega) (by rw [hcl]; omega) (hK _ _ ((Keeps.refl _ _).alloc _) ⟨w'.heap.size, yo, yc, rfl, hs'.size, heap_alloc_new w' _, hy.same ((Keeps.refl _ _).alloc _), hf⟩))
          · intro a w' K hs' hdep hfr ev hE hev hK
            have e18 : a.tmps[18]?.getD undef = (tv) := hdep 0 (by decide) 18 rfl
            obtain ⟨GL, yo, yc, e32, hGL, hlit, hrd, hfr2⟩ : MsgL c ms.length wr.heap.size w' (a.tmps[32]?.getD undef) := hdep 14 (by decide) 32 rfl
            obtain ⟨g, cp, w'', hrun, hk9, hkr⟩ := mrow_append hE (m := askM c ms.length yo yc) hrd (HOF.out yo yc hfr2) rfl (by omega) hlit (Nat.le_trans HBS.out hs'.size)
            refine step_append_run (by rfl) (.tmp 18) (.tmp 32) 55 (by rfl) tv (.slice (some ⟨GL, 0, none⟩) 1 1) _ w'' ((eval_tmp _ _).trans e18) ((eval_tmp _ _).trans e32) hrun ?_
            exact hK _ _ hk9 ⟨g, cp, yo, yc, rfl, hkr⟩ trivial
        intro a wz hkz hdef hsz hv hfr ev hEz hev
        have e18 : a.tmps[18]?.getD undef = (tv) := hv 0 18 (by omega) rfl
        have e33 := hev 0 33 rfl rfl
        have he := act_eq a _ [some 18, some 19, some 20, some 21, some 22, some 23, some 24, some 25, some 26, some 27, some 28, some 29, some 30, some 31, some 32, some 33] 36 rfl hsz hdef hfr (fun d => a.tmps[d]?.getD undef) (fun _ _ => rfl)
        obtain ⟨v19, h19⟩ : ∃ v, a.tmps[19]?.getD undef = v := ⟨_, rfl⟩
        obtain ⟨v20, h20⟩ : ∃ v, a.tmps[20]?.getD undef = v := ⟨_, rfl⟩
        obtain ⟨v21, h21⟩ : ∃ v, a.tmps[21]?.getD undef = v := ⟨_, rfl⟩
        obtain ⟨v22, h22⟩ : ∃ v, a.tmps[22]?.getD undef = v := ⟨_, rfl⟩
        obtain ⟨v23, h23⟩ : ∃ v, a.tmps[23]?.getD undef = v := ⟨_, rfl⟩
        obtain ⟨v24, h24⟩ : ∃ v, a.tmps[24]?.getD undef = v := ⟨_, rfl⟩
        obtain ⟨v25, h25⟩ : ∃ v, a.tmps[25]?.getD undef = v := ⟨_, rfl⟩
        obtain ⟨v26, h26⟩ : ∃ v, a.tmps[26]?.getD undef = v := ⟨_, rfl⟩
        obtain ⟨v27, h27⟩ : ∃ v, a.tmps[27]?.getD undef = v := ⟨_, rfl⟩
        obtain ⟨v28, h28⟩ : ∃ v, a.tmps[28]?.getD undef = v := ⟨_, rfl⟩
        obtain ⟨v29, h29⟩ : ∃ v, a.tmps[29]?.getD undef = v := ⟨_, rfl⟩
        obtain ⟨v30, h30⟩ : ∃ v, a.tmps[30]?.getD undef = v := ⟨_, rfl⟩
        obtain ⟨v31, h31⟩ : ∃ v, a.tmps[31]?.getD undef = v := ⟨_, rfl⟩
        obtain ⟨v32, h32⟩ : ∃ v, a.tmps[32]?.getD undef = v := ⟨_, rfl⟩
        simp only [putAll, e18, e33, h19, h20, h21, h22, h23, h24, h25, h26, h27, h28, h29, h30, h31, h32, List.setIfInBounds_toArray, List.set_cons_zero, List.set_cons_succ] at he
        clear e18 e33 h19 h20 h21 h22 h23 h24 h25 h26 h27 h28 h29 h30 h31 h32 hdef hsz hv hfr hev
        subst he
        obtain ⟨g4, c4, yo, yc, rfl, hkr⟩ := hEz
        have HM4 := Lib.hid hkr
        have HA4 : Hid (AskAll c (ms ++ [askM c ms.length yo yc])) := Lib.hid (AskAll.snoc HA.out yo yc)
        have HL4 : Hid ((ms ++ [askM c ms.length yo yc]).length = ms.length + 1) := Lib.hid (by rw [List.length_append]; rfl)
        have HS4 : Hid (Same w wz) := Lib.hid (HS.out.trans hkz (fun q hq e => by have := (HR.out.own.lt q e).1; omega))
        clear hkz hkr
        go_wp2
        go_roundw
        case rel => exact ⟨ms.length + 1, by omega, by go_num, ms ++ [askM c ms.length yo yc], HL4, HM4, HA4, HS4⟩
        case measure => simp [intOf]; omega
      · obtain rfl : j = N := by omega
        have hjn : ¬ (j : Int) < (j : Int) := by omega
        go_wp2
        go_ret
        exact ⟨_, ms, rfl, HR.out, HA.out, by have := HLM.out; omega, HS.out⟩
  have hn7 : (N : Int) = 7 := by omega
  clear hN
  go_enter Try.func13, Try.ntmps13
  go_wp2
  clear b8
  go_loopw [5, 15] (fun tv i wr => ∃ j : Nat, j ≤ N ∧ i = .int .i64 j ∧ ∃ ms, Hid (List.length ms = j) ∧ Hid (MRow w.heap.size wr tv ms) ∧ Hid (AskAll c ms) ∧ Hid (Same w wr)) (fun _ i _ => N - (intOf i).toNat)
  case atStart => exact ⟨0, by omega, rfl, [], Lib.hid rfl, Lib.hid (MRow.nil _ _), Lib.hid (fun j h => by simp at h), Lib.hid (Keeps.refl _ _)⟩
  case round =>
    obtain ⟨j, hj, rfl, ms, HLM, HR, HA, HS⟩ := hrel
    by_cases hlt : j < N
    · obtain rfl : j = List.length ms := HLM.out.symm
      have hjn : ((List.length ms : Nat) : Int) < 7 := by omega
      obtain ⟨tv, rfl⟩ : ∃ v, v = u5 := ⟨_, rfl⟩
      have HBS : Hid (w.heap.size ≤ wr.heap.size) := Lib.hid HS.out.size
      have HKB : Hid (∀ k, tv.ownBlock = some k → k < wr.heap.size) := Lib.hid (fun k e => (HR.out.own.lt k e).2)
      have HCK : Hid (∀ w', Keeps (fun k => tv.ownBlock = some k) wr w' → ClAt w' B c) := Lib.hid (fun w' k => by
        have h0 := HC.out.same HS.out
        have hlo : ∀ q, tv.ownBlock = some q → w.heap.size ≤ q := fun q e => (HR.out.own.lt q e).1
        refine ⟨h0.wh.keep k (fun e => by have := hlo _ e; have := HC.out.wh.lt; omega), reads_off h0.rd k (fun pa e hne e2 => ?_), h0.far, h0.nr, h0.len⟩
        obtain ⟨_, _, _, h7, _⟩ := HC.out.rd
        rw [e] at h7
        have h8 := h7.lt hne
        have h9 := hlo _ e2
        omega)
      have HOF : Hid (∀ yo yc, FarFrom wr.heap.size (.slice yo c.ds.length yc) c.ds → OpFar w.heap.size tv.ownBlock (askM c ms.length yo yc)) := Lib.hid (fun yo yc hf pa e h0 => by
        have h1 := (hf pa c.ds.length yc (by simp only [askM] at e; rw [e]) h0).2
        refine ⟨fun e2 => ?_, by have := HBS.out; omega⟩
        have := HKB.out _ e2
        omega)
      go_wp2
      refine wp_region_hand [[], [], [1], [2], [3], [4], [5], [], [], [8], [9], [10], [11], [6, 7, 12], [13], [0, 14, 12], [15, 15, 0, 1, 2, 3, 4, 5, 6, 7, 8, 9, 10, 11, 12, 13, 14, 15]]
        [some 18, some 19, some 20, some 21, some 22, some 23, some 24, some 25, some 26, some 27, some 28, some 29, some 30, some 31, some 32, some 33, some 5]
        [.is (tv), .is (.pointer (some ⟨B, 0, none⟩)), .is (.pointer (some ⟨B, 0, none⟩)), .is (.pointer (some ⟨B, 0, none⟩)), .is (.pointer (some ⟨B, 0, none⟩)), .is (.int .i64 c.id), .is (.int .i64 (100 + c.id)), .is (.int .i64 (ms.length : Int)), .is (.pointer (some ⟨B, 0, none⟩)), .is (.pointer (some ⟨B, 0, none⟩)), .is (.pointer (some ⟨B, 0, none⟩)), .is (.agg c.call.toArray), .ex (CallV c) (CallV.keep c), .ex (MsgV c ms.length) (MsgV.keep c ms.length), .ex (MsgL c ms.length) (MsgL.keep c ms.length), .any, .any]
        (fun k => tv.ownBlock = some k) [15] (AskE w.heap.size tv c ms) 7 _ _ 36 16 17 (by kernel_rfl) (by rfl) (by rfl) (by omega) (by kernel_rfl) (by kernel_rfl) (by decide) (by decide) (fun k e => HKB.out k e) HR.out AskE.same ?_ ?_
      · refine ⟨?_, ?_, ?_, ?_, ?_, ?_, ?_, ?_, ?_, ?_, ?_, ?_, ?_, ?_, ?_, ?_, trivial⟩
        · intro a w' K hs' hdep hfr hK
          have f5 := hfr 5 (by decide)
          exact plan_do (by rfl) (plan_yield (i := 0) (V := fun _ _ v => v = (tv : Value)) (tv) (by go_simp) rfl hK)
        · intro a w' K hs' hdep hfr hK
          have f0 := hfr 0 (by decide)
          exact plan_do (by rfl) (plan_yield (i := 1) (V := fun _ _ v => v = (.pointer (some ⟨B, 0, none⟩) : Value)) (.pointer (some ⟨B, 0, none⟩)) (by go_simp) rfl hK)
        · intro a w' K hs' hdep hfr hK
          have e19 : a.tmps[19]?.getD undef = (.pointer (some ⟨B, 0, none⟩)) := hdep 1 (by decide) 19 rfl
          exact plan_do (by rfl) (plan_yield (i := 2) (V := fun _ _ v => v = (.pointer (some ⟨B, 0, none⟩) : Value)) (.pointer (some ⟨B, 0, none⟩)) (by go_simp) rfl hK)
        · intro a w' K hs' hdep hfr hK
          have e20 : a.tmps[20]?.getD undef = (.pointer (some ⟨B, 0, none⟩)) := hdep 2 (by decide) 20 rfl
          exact plan_do (by rfl) (plan_yield (i := 3) (V := fun _ _ v => v = (.pointer (some ⟨B, 0, none⟩) : Value)) (.pointer (some ⟨B, 0, none⟩)) (by go_simp) rfl hK)
        · intro a w' K hs' hdep hfr hK
          have e21 : a.tmps[21]?.getD undef = (.pointer (some ⟨B, 0, none⟩)) := hdep 3 (by decide) 21 rfl
          exact plan_do (by rfl) (plan_yield (i := 4) (V := fun _ _ v => v = (.pointer (some ⟨B, 0, none⟩) : Value)) (.pointer (some ⟨B, 0, none⟩)) (by go_simp) rfl hK)
        · intro a w' K hs' hdep hfr hK
          have e22 : a.tmps[22]?.getD undef = (.pointer (some ⟨B, 0, none⟩)) := hdep 4 (by decide) 22 rfl
          have cl := (HCK.out _ hs').wh.cell (i := 0) rfl
          exact plan_do (by rfl) (plan_yield (i := 5) (V := fun _ _ v => v = (.int .i64 c.id : Value)) (.int .i64 c.id) (by go_simp) rfl hK)
        · intro a w' K hs' hdep hfr hK
          have e23 : a.tmps[23]?.getD undef = (.int .i64 c.id) := hdep 5 (by decide) 23 rfl
          have wj := HWJ.out
          exact plan_do (by rfl) (plan_yield (i := 6) (V := fun _ _ v => v = (.int .i64 (100 + c.id) : Value)) (.int .i64 (100 + c.id)) (by go_simp) rfl hK)
        · intro a w' K hs' hdep hfr hK
          have f6 := hfr 6 (by decide)
          exact plan_do (by rfl) (plan_yield (i := 7) (V := fun _ _ v => v = (.int .i64 (ms.length : Int) : Value)) (.int .i64 (ms.length : Int)) (by go_simp) rfl hK)
        · intro a w' K hs' hdep hfr hK
          have f0 := hfr 0 (by decide)
          exact plan_do (by rfl) (plan_yield (i := 8) (V := fun _ _ v => v = (.pointer (some ⟨B, 0, none⟩) : Value)) (.pointer (some ⟨B, 0, none⟩)) (by go_simp) rfl hK)
        · intro a w' K hs' hdep hfr hK
          have e26 : a.tmps[26]?.getD undef = (.pointer (some ⟨B, 0, none⟩)) := hdep 8 (by decide) 26 rfl
          exact plan_do (by rfl) (plan_yield (i := 9) (V := fun _ _ v => v = (.pointer (some ⟨B, 0, none⟩) : Value)) (.pointer (some ⟨B, 0, none⟩)) (by go_simp) rfl hK)
        · intro a w' K hs' hdep hfr hK
          have e27 : a.tmps[27]?.getD undef = (.pointer (some ⟨B, 0, none⟩)) := hdep 9 (by decide) 27 rfl
          exact plan_do (by rfl) (plan_yield (i := 10) (V := fun _ _ v => v = (.pointer (some ⟨B, 0, none⟩) : Value)) (.pointer (some ⟨B, 0, none⟩)) (by go_simp) rfl hK)
        · intro a w' K hs' hdep hfr hK
          have e28 : a.tmps[28]?.getD undef = (.pointer (some ⟨B, 0, none⟩)) := hdep 10 (by decide) 28 rfl
          exact plan_do (by rfl) (wp_load_mid (P := Try.prog) 38 (.tmp 28) rfl B 0 ((eval_tmp _ _).trans e28) c.call _ (HCK.out _ hs').callR Try.underlying38 rfl (by exact Try.sizeCallW) (hK _ _ (Keeps.refl _ _) rfl))
        · intro a w' K hs' hdep hfr hK
          have e29 : a.tmps[29]?.getD undef = (.agg c.call.toArray) := hdep 11 (by decide) 29 rfl
          refine plan_do (by rfl) (plan_call 23 #[.agg c.call.toArray] (by go_simp) ?_)
          exact (twinCall_any c.id c.nr c.k c.off c.n c.p c.t _ c.ds w' (HCK.out _ hs').rd (by have := HC.out.len; omega)).mono fun e w'' ⟨hk, y, he, hy, hf⟩ => by
            obtain ⟨yo, yc, rfl, _⟩ := id hy
            exact ⟨_, he, hK _ _ hk ⟨yo, yc, rfl, hy, hf.le hs'.size⟩⟩
        · intro a w' K hs' hdep hfr hK
          have e24 : a.tmps[24]?.getD undef = (.int .i64 (100 + c.id)) := hdep 6 (by decide) 24 rfl
          have e25 : a.tmps[25]?.getD undef = (.int .i64 (ms.length : Int)) := hdep 7 (by decide) 25 rfl
          obtain ⟨yo, yc, e30, hy, hf⟩ : CallV c wr.heap.size w' (a.tmps[30]?.getD undef) := hdep 12 (by decide) 30 rfl
          refine plan_do (by rfl) (plan_build 45 #[(0, .const (.int .i64 1)), (1, .tmp 24), (2, .tmp 25), (8, .tmp 30)] rfl (askM c ms.length yo yc).cells.toArray ?_ (hK _ _ (Keeps.refl _ _) ⟨yo, yc, rfl, hy, hf⟩))
          simp only [List.map_toArray, List.map_cons, List.map_nil, eval_tmp, e24, e25, e30]
          exact built_ask c ms.length yo yc
        · intro a w' K hs' hdep hfr hK
          obtain ⟨yo, yc, e31, hy, hf⟩ : MsgV c ms.length wr.heap.size w' (a.tmps[31]?.getD undef) := hdep 13 (by decide) 31 rfl
          have hcl : (askM c ms.length yo yc).cells.toArray.size = 53 := by rw [List.size_toArray]; exact (askM c ms.length yo yc).cells_length rfl
          exact plan_do (by rfl) (wp_buildOne 55 45 (.tmp 31) rfl (askM c ms.length yo yc).cells.toArray ie _ ((eval_tmp _ _).trans e31) Try.underlying55 hie HZ.out (by rw [hz1, hcl]) (by rw [hcl]; omega) (by rw [hcl]; omega) (hK _ _ ((Keeps.refl _ _).alloc _) ⟨w'.heap.size, yo, yc, rfl, hs'.size, heap_alloc_new w' _, hy.same ((Keeps.refl _ _).alloc _), hf⟩))
        · intro a w' K hs' hdep hfr ev hE hev hK
          have e18 : a.tmps[18]?.getD undef = (tv) := hdep 0 (by decide) 18 rfl
          obtain ⟨GL, yo, yc, e32, hGL, hlit, hrd, hfr2⟩ : MsgL c ms.length wr.heap.size w' (a.tmps[32]?.getD undef) := hdep 14 (by decide) 32 rfl
          obtain ⟨g, cp, w'', hrun, hk9, hkr⟩ := mrow_append hE (m := askM c ms.length yo yc) hrd (HOF.out yo yc hfr2) rfl (by omega) hlit (Nat.le_trans HBS.out hs'.size)
          refine step_append_run (by rfl) (.tmp 18) (.tmp 32) 55 (by rfl) tv (.slice (some ⟨GL, 0, none⟩) 1 1) _ w'' ((eval_tmp _ _).trans e18) ((eval_tmp _ _).trans e32) hrun ?_
          exact hK _ _ hk9 ⟨g, cp, yo, yc, rfl, hkr⟩ trivial
      intro a wz hkz hdef hsz hv hfr ev hEz hev
      have e18 : a.tmps[18]?.getD undef = (tv) := hv 0 18 (by omega) rfl
      have e33 := hev 0 33 rfl rfl
      have he := act_eq a _ [some 18, some 19, some 20, some 21, some 22, some 23, some 24, some 25, some 26, some 27, some 28, some 29, some 30, some 31, some 32, some 33] 36 rfl hsz hdef hfr (fun d => a.tmps[d]?.getD undef) (fun _ _ => rfl)
      obtain ⟨v19, h19⟩ : ∃ v, a.tmps[19]?.getD undef = v := ⟨_, rfl⟩
      obtain ⟨v20, h20⟩ : ∃ v, a.tmps[20]?.getD undef = v := ⟨_, rfl⟩
      obtain ⟨v21, h21⟩ : ∃ v, a.tmps[21]?.getD undef = v := ⟨_, rfl⟩
      obtain ⟨v22, h22⟩ : ∃ v, a.tmps[22]?.getD undef = v := ⟨_, rfl⟩
      obtain ⟨v23, h23⟩ : ∃ v, a.tmps[23]?.getD undef = v := ⟨_, rfl⟩
      obtain ⟨v24, h24⟩ : ∃ v, a.tmps[24]?.getD undef = v := ⟨_, rfl⟩
      obtain ⟨v25, h25⟩ : ∃ v, a.tmps[25]?.getD undef = v := ⟨_, rfl⟩
      obtain ⟨v26, h26⟩ : ∃ v, a.tmps[26]?.getD undef = v := ⟨_, rfl⟩
      obtain ⟨v27, h27⟩ : ∃ v, a.tmps[27]?.getD undef = v := ⟨_, rfl⟩
      obtain ⟨v28, h28⟩ : ∃ v, a.tmps[28]?.getD undef = v := ⟨_, rfl⟩
      obtain ⟨v29, h29⟩ : ∃ v, a.tmps[29]?.getD undef = v := ⟨_, rfl⟩
      obtain ⟨v30, h30⟩ : ∃ v, a.tmps[30]?.getD undef = v := ⟨_, rfl⟩
      obtain ⟨v31, h31⟩ : ∃ v, a.tmps[31]?.getD undef = v := ⟨_, rfl⟩
      obtain ⟨v32, h32⟩ : ∃ v, a.tmps[32]?.getD undef = v := ⟨_, rfl⟩
      simp only [putAll, e18, e33, h19, h20, h21, h22, h23, h24, h25, h26, h27, h28, h29, h30, h31, h32, List.setIfInBounds_toArray, List.set_cons_zero, List.set_cons_succ] at he
      clear e18 e33 h19 h20 h21 h22 h23 h24 h25 h26 h27 h28 h29 h30 h31 h32 hdef hsz hv hfr hev
      subst he
      obtain ⟨g4, c4, yo, yc, rfl, hkr⟩ := hEz
      have HM4 := Lib.hid hkr
      have HA4 : Hid (AskAll c (ms ++ [askM c ms.length yo yc])) := Lib.hid (AskAll.snoc HA.out yo yc)
      have HL4 : Hid ((ms ++ [askM c ms.length yo yc]).length = ms.length + 1) := Lib.hid (by rw [List.length_append]; rfl)
      have HS4 : Hid (Same w wz) := Lib.hid (HS.out.trans hkz (fun q hq e => by have := (HR.out.own.lt q e).1; omega))
      clear hkz hkr
      go_wp2
      go_roundw
      case rel => exact ⟨ms.length + 1, by omega, by go_num, ms ++ [askM c ms.length yo yc], HL4, HM4, HA4, HS4⟩
      case measure => simp [intOf]; omega
    · obtain rfl : j = N := by omega
      have hjn : ¬ (j : Int) < 7 := by omega
      go_wp2
      go_ret
      exact ⟨_, ms, rfl, HR.out, HA.out, by have := HLM.out; omega, HS.out⟩
end Go.Proofs.Ytlglkkoippoafaa
