/- The walk of NetFirst. -/
import Derived.Test.YtafgiljgefeefaaDoorNt2
import Derived.Test.YtafgiljgefeefaaDoorLrow
namespace Go.Proofs.YtafgiljgefeefaaDoor
open Go.RowKit
set_option linter.unusedVariables false

def TakePost (w0 w : World) (N : Nat) (ms : List Msg) (k : Int) (e : Ending) (w' : World) : Prop :=
  NetK w w' ∧ ∃ (m : Msg) (tA : Option Addr) (tc : Nat) (bl : List (Value × List UInt8)), MsgIn w' m ∧ MsgBtw w.heap.size w'.heap.size m ∧
    ((∃ (j : Nat) (hj : j < ms.length), k = (j : Int) ∧ m.Right ∧ m.Eqv ms[j] ∧ e = .returned (.tuple #[.agg m.cells.toArray, .bool true]) ∧ NetAt w0 w' N tA tc bl (ms.eraseIdx j)) ∨
     (¬ (0 ≤ k ∧ k < (ms.length : Int)) ∧ m = zeroM ∧ e = .returned (.tuple #[.agg m.cells.toArray, .bool false]) ∧ NetAt w0 w' N tA tc bl ms))
/-- The world while Take answers: the message in its place, the net with it or without. -/
def TkE (w0 w : World) (N : Nat) (tA : Option Addr) (tc : Nat) (bl : List (Value × List UInt8)) (ms ms' : List Msg) (m : Msg) : Nat → World → Prop
  | 0, w' => NetAt w0 w' N tA tc bl ms ∧ Whole w' w.heap.size 45 zeroM.cells ∧ MsgIn w' m
  | 1, w' => (∃ tB td bl', NetAt w0 w' N tB td bl' ms') ∧ Whole w' w.heap.size 45 zeroM.cells ∧ MsgIn w' m
  | _ + 2, w' => (∃ tB td bl', NetAt w0 w' N tB td bl' ms') ∧ Whole w' w.heap.size 45 m.cells ∧ MsgIn w' m
theorem TkE.same {w0 w : World} {N : Nat} {tA : Option Addr} {tc : Nat} {bl : List (Value × List UInt8)} {ms ms' : List Msg} {m : Msg} (c : Nat) (w1 w2 : World) (h : TkE w0 w N tA tc bl ms ms' m c w1) (k : Same w1 w2) : TkE w0 w N tA tc bl ms ms' m c w2 := by
  match c, h with
  | 0, ⟨h1, h2, h3⟩ => exact ⟨h1.keepSame k, h2.keep k (fun e => e), h3.same k⟩
  | 1, ⟨⟨_, _, _, h1⟩, h2, h3⟩ => exact ⟨⟨_, _, _, h1.keepSame k⟩, h2.keep k (fun e => e), h3.same k⟩
  | _ + 2, ⟨⟨_, _, _, h1⟩, h2, h3⟩ => exact ⟨⟨_, _, _, h1.keepSame k⟩, h2.keep k (fun e => e), h3.same k⟩
def TkF (w0 w : World) (N : Nat) (tA : Option Addr) (tc : Nat) (bl : List (Value × List UInt8)) (ms : List Msg) (m : Msg) : Nat → World → Prop
  | 0, w' => NetAt w0 w' N tA tc bl ms ∧ Whole w' w.heap.size 45 zeroM.cells ∧ MsgIn w' m
  | _ + 1, w' => (∃ tB td bl', NetAt w0 w' N tB td bl' ms) ∧ Whole w' w.heap.size 45 m.cells ∧ MsgIn w' m
theorem TkF.same {w0 w : World} {N : Nat} {tA : Option Addr} {tc : Nat} {bl : List (Value × List UInt8)} {ms : List Msg} {m : Msg} (c : Nat) (w1 w2 : World) (h : TkF w0 w N tA tc bl ms m c w1) (k : Same w1 w2) : TkF w0 w N tA tc bl ms m c w2 := by
  match c, h with
  | 0, ⟨h1, h2, h3⟩ => exact ⟨h1.keepSame k, h2.keep k (fun e => e), h3.same k⟩
  | _ + 1, ⟨⟨_, _, _, h1⟩, h2, h3⟩ => exact ⟨⟨_, _, _, h1.keepSame k⟩, h2.keep k (fun e => e), h3.same k⟩
theorem NetAt.offMsg {w0 w : World} {N : Nat} {tA : Option Addr} {tc : Nat} {bl : List (Value × List UInt8)} {ms : List Msg} {R : Nat} {cs : List Value} (h : NetAt w0 w N tA tc bl ms) (hR : Whole w R 45 cs) (h0 : w0.heap.size ≤ R) (ds : Array Value) : NetAt w0 (w.setRow R ds) N tA tc bl ms :=
  h.keep (S := fun q => q = R) ((Keeps.refl _ _).setRow _ _ (.inr rfl)) (fun q e => .inr ⟨by subst e; exact ⟨_, _, hR, by decide, by decide, by decide⟩, by omega⟩)
theorem netK_take {w w3 w4 : World} {N R : Nat} {v : Value} (h1 : Same w w3) (h2 : Keeps (fun q => q = R ∨ q = N ∨ v.ownBlock = some q) w3 w4) (hR : w.heap.size ≤ R) (hN : ∃ cs, Whole w N 62 cs) (hv : ∀ q, v.ownBlock = some q → ∃ cur, w.heap[q]? = some (.cells cur 33 (0, 0))) : NetK w w4 := by
  refine ⟨fun q => q = N ∨ v.ownBlock = some q, (h1.any).trans h2 (fun q hq e => ?_), fun q e => ?_⟩
  · rcases e with e | e
    · omega
    · exact e
  · rcases e with rfl | e
    · obtain ⟨cs, hc⟩ := hN
      exact ⟨_, _, hc, .inl rfl⟩
    · obtain ⟨cur, hc⟩ := hv q e
      exact ⟨cur, _, hc, .inr rfl⟩

set_option maxRecDepth 100000 in
set_option maxHeartbeats 12800000 in
theorem netTake_any {w0 : World} {N : Nat} {tA : Option Addr} {tc : Nat} {bl : List (Value × List UInt8)} {ms : List Msg} (k : Int) (w : World) (h : NetAt w0 w N tA tc bl ms) (hN : Nums w0) (hl : ms.length ≤ 4000) :
    Calls Tryd.prog 9 #[.pointer (some ⟨N, 0, none⟩), .int .i64 k] w (TakePost w0 w N ms k) := by
  have HH := Lib.hid h
  have hzm := Tryd.zeroMsgW
  have HL := Lib.hid hl
  have HNUM := Lib.hid hN
  obtain ⟨wz, hwz⟩ : ∃ wz, w.alloc (.cells zeroM.cells.toArray 45) = wz := ⟨_, rfl⟩
  have HKZ : Hid (Same w wz) := Lib.hid (by rw [← hwz]; exact (Keeps.refl _ _).alloc _)
  have HSZW : Hid (wz.heap.size = w.heap.size + 1) := Lib.hid (by rw [← hwz]; simp)
  have HR0 : Hid (Whole wz w.heap.size 45 zeroM.cells) := Lib.hid (by rw [← hwz]; exact heap_alloc_new w _)
  have HZ := Lib.hid (h.keepSame HKZ.out)
  have HPK := Lib.hid (netPeek_any k wz HZ.out HNUM.out)
  unfold PeekPost at HPK
  have HOLD : Hid (N < w.heap.size ∧ ∀ q, (.slice tA bl.length tc : Value).ownBlock = some q → q < w.heap.size) := Lib.hid ⟨h.obj.lt, fun q e => (h.own.lt q e).2⟩
  clear h hN hl
  go_enter Tryd.func9, Tryd.ntmps9
  go_wp2_with fail
  clear hwz
  ((with_reducible refine HPK.out.mono ?_); rintro e w2 ⟨hk2, m, hmi, hmb, hres⟩)
  have H2 := Lib.hid (HZ.out.keepSame hk2)
  have HR2 : Hid (Whole w2 w.heap.size 45 zeroM.cells) := Lib.hid (HR0.out.keep hk2 (fun e => e))
  have HK2 : Hid (Same w w2) := Lib.hid (HKZ.out.trans hk2 (fun _ _ e => e))
  have HSM := Lib.hid (Tryd.sizeMsgOf m hmi.hd)
  have HEX : Hid (zeroM.cells.toArray.size = m.cells.toArray.size) := Lib.hid (by rw [List.size_toArray, List.size_toArray, m.cells_length hmi.hd, zeroM.cells_length rfl])
  have HAL : Hid (m.cells.toArray.all (·.oneCell') = true) := Lib.hid m.cells_all
  obtain ⟨G6, hG6⟩ : ∃ G, w2.heap.size = G := ⟨_, rfl⟩
  obtain ⟨wa, hwa⟩ : ∃ wa, w2.alloc (.cells zeroM.cells.toArray 45) = wa := ⟨_, rfl⟩
  have hka : Same w2 wa := by rw [← hwa]; exact (Keeps.refl _ _).alloc _
  have HMA : Hid (Whole wa G6 45 zeroM.cells) := Lib.hid (by rw [← hwa, ← hG6]; exact heap_alloc_new w2 _)
  obtain ⟨w3, hw3⟩ : ∃ w3, wa.setRow G6 m.cells.toArray = w3 := ⟨_, rfl⟩
  have HW3 := Lib.hid hw3
  have hk3 : Same w2 w3 := by rw [← hw3]; exact hka.setRow _ _ (.inl (by omega))
  have HM3 : Hid (Whole w3 G6 45 m.cells) := Lib.hid (by rw [← hw3]; exact HMA.out.row)
  have HNE : Hid (G6 ≠ w.heap.size ∧ G6 ≠ N ∧ ¬ (.slice tA bl.length tc : Value).ownBlock = some G6) := Lib.hid (by
    have h1 := HOLD.out.1
    have h2 := HSZW.out
    have h3 := hk2.size
    exact ⟨by omega, by omega, fun e => by have := HOLD.out.2 _ e; omega⟩)
  have HLT : Hid (∀ q, (q = w.heap.size ∨ q = N ∨ (.slice tA bl.length tc : Value).ownBlock = some q) → q < w3.heap.size) := Lib.hid (by
    intro q e
    have h1 := HOLD.out.1
    have h2 := HSZW.out
    have h3 := hk2.size
    have h4 := hk3.size
    rcases e with e | e | e
    · omega
    · omega
    · have := HOLD.out.2 _ e; omega)
  have HMB : Hid (MsgBtw (w.heap.size + 1) w3.heap.size m) := Lib.hid (hmb.mono (by have := HSZW.out; omega) hk3.size)
  have H3 := Lib.hid (H2.out.keepSame hk3)
  have HR3 : Hid (Whole w3 w.heap.size 45 zeroM.cells) := Lib.hid (HR2.out.keep hk3 (fun e => e))
  have HMI3 : Hid (MsgIn w3 m) := Lib.hid (hmi.same hk3)
  have HK3 : Hid (Same w w3) := Lib.hid (HK2.out.trans hk3 (fun _ _ e => e))
  have HNW : Hid (w0.heap.size ≤ w.heap.size) := Lib.hid HH.out.same.size
  have HNK : Hid (∀ w4, Keeps (fun q => q = w.heap.size ∨ q = N ∨ (.slice tA bl.length tc : Value).ownBlock = some q) w3 w4 → NetK w w4) := Lib.hid (fun w4 k4 => netK_take HK3.out k4 (Nat.le_refl _) ⟨_, HH.out.obj⟩ (fun q e => own_typ HH.out.own e))
  have HBB : Hid (∀ w4, Keeps (fun q => q = w.heap.size ∨ q = N ∨ (.slice tA bl.length tc : Value).ownBlock = some q) w3 w4 → MsgBtw w.heap.size w4.heap.size m) := Lib.hid (fun w4 k4 => HMB.out.mono (by omega) k4.size)
  have HIL : Hid (∀ q, (q = w.heap.size ∨ q = N ∨ (.slice tA bl.length tc : Value).ownBlock = some q) → q < w.heap.size + 1) := Lib.hid (fun q e => by
    rcases e with e | e | e
    · omega
    · have := HOLD.out.1; omega
    · have := HOLD.out.2 q e; omega)
  clear hk2 hmb hka hk3
  rcases hres with ⟨j, hj, rfl, hR, hev, rfl⟩ | ⟨hnk, hmz, rfl⟩
  case inr =>
    have HE0 : Hid (TkF w0 w N tA tc bl ms m 0 w3) := Lib.hid ⟨H3.out, HR3.out, HMI3.out⟩
    have HSTO : Hid (∀ w', NetAt w0 w' N tA tc bl ms → Whole w' w.heap.size 45 zeroM.cells → MsgIn w' m → TkF w0 w N tA tc bl ms m 1 (w'.setRow w.heap.size m.cells.toArray)) := Lib.hid (fun w' h1 h2 h3 =>
      ⟨⟨_, _, _, h1.offMsg h2 HNW.out _⟩, h2.row, h3.keep (HMB.out) ((Keeps.refl (fun q => q = w.heap.size) _).setRow _ _ (.inr rfl)) (fun q e => .inl (by omega))⟩)
    have HNN := Lib.hid hnk
    have HMZ := Lib.hid hmz
    clear hmi hnk hmz
    go_wp2_with (refine wpList_store_row (by rfl) 45 _ _ (by rfl) G6 m.cells.toArray (by rfl) (by rfl) 45 zeroM.cells.toArray HMA.out HSM.out HEX.out HAL.out ?_; rw [HW3.out])
    clear hwa hw3 hG6 HW3 HMA
    refine wp_region_tail [[], [], [1], [2], [2], [3, 4, 2, 2], [2, 5], [0, 5, 0], [6, 7, 0, 1, 2, 3, 4, 5, 6, 7]]
      [some 14, some 15, some 16, some 17, some 18, some 19, some 20, none, some 5]
      [.is (.agg m.cells.toArray), .is (.bool false), .is (.bool false), .any, .any, .any, .is (.bool false), .any, .any]
      (fun q => q = w.heap.size ∨ q = N ∨ (.slice tA bl.length tc : Value).ownBlock = some q) [7] (TkF w0 w N tA tc bl ms m) 2 _ _ 21 8 9 (by kernel_rfl) (by rfl) (by rfl) (by omega) (by kernel_rfl) (by kernel_rfl) (by decide) (by decide) (fun k e => HLT.out k e) HE0.out (fun c w1 w2 h k => TkF.same c w1 w2 h k) ?_ ?_
    · refine ⟨?_, ?_, ?_, ?_, ?_, ?_, ?_, ?_, trivial⟩
      · intro a w' K hs' hdep hfr hK
        have f6 := hfr 6 (by decide)
        exact plan_do (by rfl) (wp_load_row 45 (.tmp 6) rfl G6 ((eval_tmp _ _).trans f6) 45 m.cells.toArray (0, 0) _ (HM3.out.keep hs' (by rintro e; rcases e with e | e | e <;> first | exact HNE.out.1 e | exact HNE.out.2.1 e | exact HNE.out.2.2 e)) Tryd.underlying45 rfl HSM.out (hK _ _ (Keeps.refl _ _) rfl))
      · intro a w' K hs' hdep hfr hK
        have f7 := hfr 7 (by decide)
        exact plan_do (by rfl) (plan_yield (i := 1) (V := fun _ _ v => v = (.bool false : Value)) (.bool false) (by go_simp) rfl hK)
      · intro a w' K hs' hdep hfr hK
        have e15 : a.tmps[15]?.getD undef = (.bool false) := hdep 1 (by decide) 15 rfl
        exact plan_do (by rfl) (plan_yield (i := 2) (V := fun _ _ v => v = (.bool false : Value)) (.bool false) (by go_simp) rfl hK)
      · intro a w' K hs' hdep hfr hK
        have e16 : a.tmps[16]?.getD undef = (.bool false) := hdep 2 (by decide) 16 rfl
        have f0 := hfr 0 (by decide)
        exact plan_skip (unwanted_by 2 16 true rfl rfl e16) (hK _ _ (Keeps.refl _ _) trivial)
      · intro a w' K hs' hdep hfr hK
        have e16 : a.tmps[16]?.getD undef = (.bool false) := hdep 2 (by decide) 16 rfl
        have f1 := hfr 1 (by decide)
        exact plan_skip (unwanted_by 2 16 true rfl rfl e16) (hK _ _ (Keeps.refl _ _) trivial)
      · intro a w' K hs' hdep hfr hK
        have e16 : a.tmps[16]?.getD undef = (.bool false) := hdep 2 (by decide) 16 rfl
        exact plan_skip (unwanted_by 2 16 true rfl rfl e16) (hK _ _ (Keeps.refl _ _) trivial)
      · intro a w' K hs' hdep hfr hK
        have e16 : a.tmps[16]?.getD undef = (.bool false) := hdep 2 (by decide) 16 rfl
        exact plan_do (by rfl) (plan_yield (i := 6) (V := fun _ _ v => v = (.bool false : Value)) (.bool false) (by go_simp) rfl hK)
      · intro a w' K hs' hdep hfr hE hK
        have e14 : a.tmps[14]?.getD undef = (.agg m.cells.toArray) := hdep 0 (by decide) 14 rfl
        have f4 := hfr 4 (by decide)
        obtain ⟨hE1, hE2, hE3⟩ := hE
        exact plan_do (by rfl) (wp_store_row 45 (.tmp 4) (.tmp 14) rfl w.heap.size m.cells.toArray ((eval_tmp _ _).trans f4) ((eval_tmp _ _).trans e14) 45 zeroM.cells.toArray hE2 HSM.out HEX.out HAL.out (hK undef _ ((Keeps.refl _ _).setRow _ _ (.inr (.inl rfl))) (HSTO.out _ hE1 hE2 hE3) trivial))
    intro a wz' hkz hdef hsz hv hfr hEz
    have e20 : a.tmps[20]?.getD undef = (.bool false) := hv 6 20 (by omega) rfl
    have he := act_eq a _ [some 14, some 15, some 16, some 17, some 18, some 19, some 20, none, some 5] 21 rfl hsz hdef hfr (fun d => a.tmps[d]?.getD undef) (fun _ _ => rfl)
    obtain ⟨v14, h14⟩ : ∃ v, a.tmps[14]?.getD undef = v := ⟨_, rfl⟩
    obtain ⟨v15, h15⟩ : ∃ v, a.tmps[15]?.getD undef = v := ⟨_, rfl⟩
    obtain ⟨v16, h16⟩ : ∃ v, a.tmps[16]?.getD undef = v := ⟨_, rfl⟩
    obtain ⟨v17, h17⟩ : ∃ v, a.tmps[17]?.getD undef = v := ⟨_, rfl⟩
    obtain ⟨v18, h18⟩ : ∃ v, a.tmps[18]?.getD undef = v := ⟨_, rfl⟩
    obtain ⟨v19, h19⟩ : ∃ v, a.tmps[19]?.getD undef = v := ⟨_, rfl⟩
    obtain ⟨v5, h5⟩ : ∃ v, a.tmps[5]?.getD undef = v := ⟨_, rfl⟩
    simp only [putAll, e20, h14, h15, h16, h17, h18, h19, h5, List.setIfInBounds_toArray, List.set_cons_zero, List.set_cons_succ] at he
    clear e20 h14 h15 h16 h17 h18 h19 h5 hdef hsz hv hfr
    subst he

    obtain ⟨⟨tB, td, bl', hE1⟩, hE2, hE3⟩ := hEz
    have HEND : Hid (wz'.heap[w.heap.size]? = some (.cells m.cells.toArray 45 (0, 0))) := Lib.hid hE2
    have HF : Hid (TakePost w0 w N ms k (.returned (.tuple #[.agg m.cells.toArray, .bool false])) wz') := Lib.hid ⟨HNK.out _ hkz, m, tB, td, bl', hE3, HBB.out _ hkz, .inr ⟨HNN.out, HMZ.out, rfl, hE1⟩⟩
    clear hE1 hE2 hE3 hkz
    go_wp2
    refine bodyPost_ret (v := .tuple #[.agg m.cells.toArray, .bool false]) (results_row_tmp (p := 4) (u := 5) (ty := 45) rfl _ _ w.heap.size 45 _ (0, 0) _ (by rfl) HEND.out Tryd.underlying45 rfl HSM.out) rfl HF.out
  have HE0 : Hid (TkE w0 w N tA tc bl ms (ms.eraseIdx j) m 0 w3) := Lib.hid ⟨H3.out, HR3.out, HMI3.out⟩
  have HSTO : Hid (∀ w', (∃ tB td bl', NetAt w0 w' N tB td bl' (ms.eraseIdx j)) → Whole w' w.heap.size 45 zeroM.cells → MsgIn w' m → TkE w0 w N tA tc bl ms (ms.eraseIdx j) m 2 (w'.setRow w.heap.size m.cells.toArray)) := Lib.hid (fun w' ⟨tB, td, bl', h1⟩ h2 h3 =>
    ⟨⟨_, _, _, h1.offMsg h2 HNW.out _⟩, h2.row, h3.keep (HMB.out) ((Keeps.refl (fun q => q = w.heap.size) _).setRow _ _ (.inr rfl)) (fun q e => .inl (by omega))⟩)
  have HJ := Lib.hid hj
  have HR := Lib.hid hR
  have HEV := Lib.hid hev
  have HDR : Hid (∀ w' w'' e, DropPost w0 w' N (.slice tA bl.length tc) ms (j : Int) e w'' → e = .returned (.bool true) ∧ Keeps (fun q => q = N ∨ (.slice tA bl.length tc : Value).ownBlock = some q) w' w'' ∧ ∃ tB td bl', NetAt w0 w'' N tB td bl' (ms.eraseIdx j)) := Lib.hid (by
    rintro w' w'' e ⟨_, hkk, tB, td, bl', ms', b, rfl, hn, hh⟩
    rcases hh with ⟨rfl, j', hj', _, rfl⟩ | ⟨_, hh, _⟩
    · have : j' = j := by omega
      subst this
      exact ⟨rfl, hkk, tB, td, bl', hn⟩
    · have := HJ.out; omega)
  have HDRS : Hid (∀ w' w'', Keeps (fun q => q = N ∨ (.slice tA bl.length tc : Value).ownBlock = some q) w' w'' → (∃ tB td bl', NetAt w0 w'' N tB td bl' (ms.eraseIdx j)) → Whole w' w.heap.size 45 zeroM.cells → MsgIn w' m → TkE w0 w N tA tc bl ms (ms.eraseIdx j) m 1 w'') := Lib.hid (fun w' w'' k1 h1 h2 h3 =>
    ⟨h1, h2.keep k1 (fun e => by
      rcases e with e | e
      · have := HOLD.out.1; omega
      · have := HOLD.out.2 _ e; omega), h3.keep HMB.out k1 (fun q e => .inl (HIL.out q (.inr e)))⟩)
  clear hmi hR hev
  go_wp2_with (refine wpList_store_row (by rfl) 45 _ _ (by rfl) G6 m.cells.toArray (by rfl) (by rfl) 45 zeroM.cells.toArray HMA.out HSM.out HEX.out HAL.out ?_; rw [HW3.out])
  clear hwa hw3 hG6 HW3 HMA
  refine wp_region_tail [[], [], [1], [2], [2], [3, 4, 2, 2], [2, 5], [0, 5, 0], [6, 7, 0, 1, 2, 3, 4, 5, 6, 7]]
    [some 14, some 15, some 16, some 17, some 18, some 19, some 20, none, some 5]
    [.is (.agg m.cells.toArray), .is (.bool true), .is (.bool true), .is (.pointer (some ⟨N, 0, none⟩)), .is (.int .i64 (j : Int)), .is (.bool true), .is (.bool true), .any, .any]
    (fun q => q = w.heap.size ∨ q = N ∨ (.slice tA bl.length tc : Value).ownBlock = some q) [5, 7] (TkE w0 w N tA tc bl ms (ms.eraseIdx j) m) 2 _ _ 21 8 9 (by kernel_rfl) (by rfl) (by rfl) (by omega) (by kernel_rfl) (by kernel_rfl) (by decide) (by decide) (fun k e => HLT.out k e) HE0.out (fun c w1 w2 h k => TkE.same c w1 w2 h k) ?_ ?_
  · refine ⟨?_, ?_, ?_, ?_, ?_, ?_, ?_, ?_, trivial⟩
    · intro a w' K hs' hdep hfr hK
      have f6 := hfr 6 (by decide)
      exact plan_do (by rfl) (wp_load_row 45 (.tmp 6) rfl G6 ((eval_tmp _ _).trans f6) 45 m.cells.toArray (0, 0) _ (HM3.out.keep hs' (by rintro e; rcases e with e | e | e <;> first | exact HNE.out.1 e | exact HNE.out.2.1 e | exact HNE.out.2.2 e)) Tryd.underlying45 rfl HSM.out (hK _ _ (Keeps.refl _ _) rfl))
    · intro a w' K hs' hdep hfr hK
      have f7 := hfr 7 (by decide)
      exact plan_do (by rfl) (plan_yield (i := 1) (V := fun _ _ v => v = (.bool true : Value)) (.bool true) (by go_simp) rfl hK)
    · intro a w' K hs' hdep hfr hK
      have e15 : a.tmps[15]?.getD undef = (.bool true) := hdep 1 (by decide) 15 rfl
      exact plan_do (by rfl) (plan_yield (i := 2) (V := fun _ _ v => v = (.bool true : Value)) (.bool true) (by go_simp) rfl hK)
    · intro a w' K hs' hdep hfr hK
      have e16 : a.tmps[16]?.getD undef = (.bool true) := hdep 2 (by decide) 16 rfl
      have f0 := hfr 0 (by decide)
      exact plan_do (wanted_of 2 16 true rfl rfl e16) (plan_yield (i := 3) (V := fun _ _ v => v = (.pointer (some ⟨N, 0, none⟩) : Value)) (.pointer (some ⟨N, 0, none⟩)) (by go_simp) rfl hK)
    · intro a w' K hs' hdep hfr hK
      have e16 : a.tmps[16]?.getD undef = (.bool true) := hdep 2 (by decide) 16 rfl
      have f1 := hfr 1 (by decide)
      exact plan_do (wanted_of 2 16 true rfl rfl e16) (plan_yield (i := 4) (V := fun _ _ v => v = (.int .i64 (j : Int) : Value)) (.int .i64 (j : Int)) (by go_simp) rfl hK)
    · intro a w' K hs' hdep hfr hE hK
      have e17 : a.tmps[17]?.getD undef = (.pointer (some ⟨N, 0, none⟩)) := hdep 3 (by decide) 17 rfl
      have e18 : a.tmps[18]?.getD undef = (.int .i64 (j : Int)) := hdep 4 (by decide) 18 rfl
      have e16 : a.tmps[16]?.getD undef = (.bool true) := hdep 2 (by decide) 16 rfl
      refine plan_do (wanted_of 2 16 true rfl rfl e16) (plan_call 12 #[.pointer (some ⟨N, 0, none⟩), .int .i64 (j : Int)] (by go_simp) ?_)
      obtain ⟨hE1, hE2, hE3⟩ := hE
      refine (netDrop_any (j : Int) w' hE1 HL.out).mono fun e w'' hp => ?_
      obtain ⟨hb, hkp, hn⟩ := HDR.out w' w'' e hp
      exact ⟨_, hb, hK _ _ (hkp.mono (fun q _ e => .inr e)) (HDRS.out w' w'' hkp hn hE2 hE3) rfl⟩
    · intro a w' K hs' hdep hfr hK
      have e16 : a.tmps[16]?.getD undef = (.bool true) := hdep 2 (by decide) 16 rfl
      have e19 : a.tmps[19]?.getD undef = (.bool true) := hdep 5 (by decide) 19 rfl
      exact plan_do (by rfl) (plan_yield (i := 6) (V := fun _ _ v => v = (.bool true : Value)) (.bool true) (by go_simp) rfl hK)
    · intro a w' K hs' hdep hfr hE hK
      have e14 : a.tmps[14]?.getD undef = (.agg m.cells.toArray) := hdep 0 (by decide) 14 rfl
      have f4 := hfr 4 (by decide)
      obtain ⟨hE1, hE2, hE3⟩ := hE
      exact plan_do (by rfl) (wp_store_row 45 (.tmp 4) (.tmp 14) rfl w.heap.size m.cells.toArray ((eval_tmp _ _).trans f4) ((eval_tmp _ _).trans e14) 45 zeroM.cells.toArray hE2 HSM.out HEX.out HAL.out (hK undef _ ((Keeps.refl _ _).setRow _ _ (.inr (.inl rfl))) (HSTO.out _ hE1 hE2 hE3) trivial))
  intro a wz' hkz hdef hsz hv hfr hEz
  have e20 : a.tmps[20]?.getD undef = (.bool true) := hv 6 20 (by omega) rfl
  have he := act_eq a _ [some 14, some 15, some 16, some 17, some 18, some 19, some 20, none, some 5] 21 rfl hsz hdef hfr (fun d => a.tmps[d]?.getD undef) (fun _ _ => rfl)
  obtain ⟨v14, h14⟩ : ∃ v, a.tmps[14]?.getD undef = v := ⟨_, rfl⟩
  obtain ⟨v15, h15⟩ : ∃ v, a.tmps[15]?.getD undef = v := ⟨_, rfl⟩
  obtain ⟨v16, h16⟩ : ∃ v, a.tmps[16]?.getD undef = v := ⟨_, rfl⟩
  obtain ⟨v17, h17⟩ : ∃ v, a.tmps[17]?.getD undef = v := ⟨_, rfl⟩
  obtain ⟨v18, h18⟩ : ∃ v, a.tmps[18]?.getD undef = v := ⟨_, rfl⟩
  obtain ⟨v19, h19⟩ : ∃ v, a.tmps[19]?.getD undef = v := ⟨_, rfl⟩
  obtain ⟨v5, h5⟩ : ∃ v, a.tmps[5]?.getD undef = v := ⟨_, rfl⟩
  simp only [putAll, e20, h14, h15, h16, h17, h18, h19, h5, List.setIfInBounds_toArray, List.set_cons_zero, List.set_cons_succ] at he
  clear e20 h14 h15 h16 h17 h18 h19 h5 hdef hsz hv hfr
  subst he

  obtain ⟨⟨tB, td, bl', hE1⟩, hE2, hE3⟩ := hEz
  have HEND : Hid (wz'.heap[w.heap.size]? = some (.cells m.cells.toArray 45 (0, 0))) := Lib.hid hE2
  have HF : Hid (TakePost w0 w N ms (j : Int) (.returned (.tuple #[.agg m.cells.toArray, .bool true])) wz') := Lib.hid ⟨HNK.out _ hkz, m, tB, td, bl', hE3, HBB.out _ hkz, .inl ⟨j, HJ.out, rfl, HR.out, HEV.out, rfl, hE1⟩⟩
  clear hE1 hE2 hE3 hkz
  go_wp2
  refine bodyPost_ret (v := .tuple #[.agg m.cells.toArray, .bool true]) (results_row_tmp (p := 4) (u := 5) (ty := 45) rfl _ _ w.heap.size 45 _ (0, 0) _ (by rfl) HEND.out Tryd.underlying45 rfl HSM.out) rfl HF.out

end Go.Proofs.YtafgiljgefeefaaDoor
namespace Go.Proofs.YtafgiljgefeefaaDoor
open Go.RowKit
set_option linter.unusedVariables false

/-- A message of a kind and a view. -/
def vm (k : Int) (v : Nat) : Msg := { zeroM with k := k, v := v }
theorem built_vm (k : Int) (v : Nat) : Tryd.prog.built 45 [(0, .int .i64 k), (3, .int .u64 (v : Int))] = some (vm k v).cells.toArray := by kernel_rfl
theorem vm_in (k : Int) (v : Nat) (hv : v < 18446744073709551616) (w : World) : MsgIn w (vm k v) :=
  ⟨rfl, Bytes.nil _ _ _, Bytes.nil _ _ _, Strs.nil _ _ _, ⟨fun h e => (by cases (show h ∈ ([] : List (List UInt8)) from e)), .inl rfl⟩, .inr ⟨0, rfl, rfl⟩, Reads.nil _ _ _, Reads.nil _ _ _, fun r e => (by cases (show r ∈ ([] : List (Value × List UInt8)) from e)), ⟨Nat.zero_le _, Nat.zero_le _, Nat.zero_le _, Nat.zero_le _, Nat.zero_le _, Nat.zero_le _, Nat.zero_le _, Nat.zero_le _⟩, hv, by show (0 : Nat) < _; omega, by show (0 : Nat) < _; omega, by show (0 : Nat) < _; omega, by show (0 : Nat) < _; omega⟩
theorem vm_right (k : Int) (v : Nat) (h1 : 3 ≤ k) (h2 : k ≤ 8) : (vm k v).Right := by
  have k1 : ¬ k = 1 := by omega
  have k2 : ¬ k = 2 := by omega
  refine ⟨⟨by show 1 ≤ k; omega, h2⟩, by simp [vm, zeroM], by simp [vm, zeroM], ?_, ?_, by simp [vm, zeroM], by simp [vm, zeroM], fun b e => by simp [vm, zeroM] at e⟩
  · unfold Msg.CallOk
    rw [if_neg (show ¬ (vm k v).k = 1 from k1), if_neg (show ¬ (vm k v).k = 2 from k2)]
    simp [vm, zeroM, OpBlank]
  · unfold Msg.AnsOk
    rw [if_neg (show ¬ (vm k v).k = 2 from k2)]
    simp [vm, zeroM, AnsBlank]

set_option maxRecDepth 100000 in
set_option maxHeartbeats 12800000 in
theorem speaks24 (w : World) (hN : Nums w) : Calls Tryd.prog 6 #[] w fun e w' => e = .returned (.bool true) ∧ Same w w' := by
  have hzm := Tryd.zeroMsgW
  obtain ⟨zc, hzc⟩ : ∃ zc, zeroM.cells.toArray = zc := ⟨_, rfl⟩
  simp only [hzc] at hzm
  have HZC : Hid (zc.size = 53) := Lib.hid (by rw [← hzc, List.size_toArray]; exact zeroM.cells_length rfl)
  clear hzc
  have HNUM := Lib.hid hN
  clear hN
  obtain ⟨ma, hma⟩ : ∃ m, vm 4 1 = m := ⟨_, rfl⟩
  obtain ⟨mb, hmb⟩ : ∃ m, vm 4 2 = m := ⟨_, rfl⟩
  have HCA : Hid (ma.cells.toArray = (vm 4 1).cells.toArray) := Lib.hid (by rw [hma])
  have HCB : Hid (mb.cells.toArray = (vm 4 2).cells.toArray) := Lib.hid (by rw [hmb])
  have HBA : Hid (Tryd.prog.built 45 [(0, .int .i64 4), (3, .int .u64 1)] = some ma.cells.toArray) := Lib.hid (by rw [← hma]; exact built_vm 4 1)
  have HBB : Hid (Tryd.prog.built 45 [(0, .int .i64 4), (3, .int .u64 2)] = some mb.cells.toArray) := Lib.hid (by rw [← hmb]; exact built_vm 4 2)
  have HIA : Hid (∀ w, MsgIn w ma) := Lib.hid (fun w => by rw [← hma]; exact vm_in 4 1 (by decide) w)
  have HIB : Hid (∀ w, MsgIn w mb) := Lib.hid (fun w => by rw [← hmb]; exact vm_in 4 2 (by decide) w)
  have HRA : Hid (ma.Right ∧ ma.v = 1) := Lib.hid (by rw [← hma]; exact ⟨vm_right 4 1 (by decide) (by decide), rfl⟩)
  have HRB : Hid (mb.Right ∧ mb.v = 2) := Lib.hid (by rw [← hmb]; exact ⟨vm_right 4 2 (by decide) (by decide), rfl⟩)
  have HSZA := Lib.hid (Tryd.sizeMsgOf ma (HIA.out w).hd)
  have HSZB := Lib.hid (Tryd.sizeMsgOf mb (HIB.out w).hd)
  have HEA : Hid (zc.size = ma.cells.toArray.size) := Lib.hid (by rw [HZC.out, List.size_toArray, ma.cells_length (HIA.out w).hd])
  have HEB : Hid (zc.size = mb.cells.toArray.size) := Lib.hid (by rw [HZC.out, List.size_toArray, mb.cells_length (HIB.out w).hd])
  clear hma hmb
  go_enter Tryd.func6, Tryd.ntmps6
  go_wp2_with fail
  ((with_reducible refine (netNew_any _).mono ?_); rintro e w1 ⟨rfl, hn1, hk1⟩)
  have HN1 := Lib.hid hn1
  have HK1 := Lib.hid hk1
  obtain ⟨N, hN⟩ : ∃ N, w.heap.size = N := ⟨_, rfl⟩
  rw [hN] at HN1 ⊢
  have HNW := Lib.hid hN
  clear hn1 hk1 hN
  obtain ⟨A, hA⟩ : ∃ A, w1.heap.size = A := ⟨_, rfl⟩
  obtain ⟨wa, hwa⟩ : ∃ wa, w1.alloc (.cells zc 45) = wa := ⟨_, rfl⟩
  obtain ⟨B, hB⟩ : ∃ B, wa.heap.size = B := ⟨_, rfl⟩
  obtain ⟨wb, hwb⟩ : ∃ wb, wa.alloc (.cells zc 45) = wb := ⟨_, rfl⟩
  have hAB : B = A + 1 := by rw [← hB, ← hA, ← hwa]; simp
  have HZA : Hid (wb.heap[A]? = some (.cells zc 45 (0, 0))) := Lib.hid (by
    have h1 : wa.heap[A]? = some (.cells zc 45 (0, 0)) := by rw [← hwa, ← hA]; exact heap_alloc_new w1 _
    rw [← hwb]; exact ((Keeps.refl (fun _ => False) _).alloc _).obj h1 (fun e => e))
  have HZB : Hid (wb.heap[B]? = some (.cells zc 45 (0, 0))) := Lib.hid (by rw [← hwb, ← hB]; exact heap_alloc_new wa _)
  obtain ⟨wc, hwc⟩ : ∃ wc, wb.setRow A ma.cells.toArray = wc := ⟨_, rfl⟩
  have HWC := Lib.hid hwc
  have kAc : Keeps (fun q => q = A) wb wc := by rw [← hwc]; exact (Keeps.refl _ _).setRow _ _ (.inr rfl)
  have HZB2 : Hid (wc.heap[B]? = some (.cells zc 45 (0, 0))) := Lib.hid (kAc.obj HZB.out (by omega))
  have hMA : Whole wc A 45 ma.cells := by rw [← hwc]; exact setRow_heap _ _ _ _ _ _ HZA.out
  obtain ⟨wd, hwd⟩ : ∃ wd, wc.setRow B mb.cells.toArray = wd := ⟨_, rfl⟩
  have HWD := Lib.hid hwd
  have kBd : Keeps (fun q => q = B) wc wd := by rw [← hwd]; exact (Keeps.refl _ _).setRow _ _ (.inr rfl)
  have HMA : Hid (wd.heap[A]? = some (.cells ma.cells.toArray 45 (0, 0))) := Lib.hid (hMA.keep kBd (by omega))
  have HMB : Hid (Whole wd B 45 mb.cells) := Lib.hid (by rw [← hwd]; exact setRow_heap _ _ _ _ _ _ HZB2.out)
  have hkd : Same w1 wd := by
    have h1 : Same w1 wb := by rw [← hwb, ← hwa]; exact ((Keeps.refl _ _).alloc _).alloc _
    exact (h1.trans kAc (fun q hq e => by omega)).trans kBd (fun q hq e => by omega)
  have HND := Lib.hid (HN1.out.keepSame hkd)
  have HKD : Hid (Same w wd) := Lib.hid (HK1.out.trans hkd (fun _ _ e => e))
  have HALA : Hid (ma.cells.toArray.all (·.oneCell') = true) := Lib.hid ma.cells_all
  have HALB : Hid (mb.cells.toArray.all (·.oneCell') = true) := Lib.hid mb.cells_all
  clear hMA kAc kBd hkd hwc hwd hAB
  go_wp2_with (first
    | ((with_reducible refine wpList_buildTo ?_ 45 #[(0, .const (.int .i64 4)), (3, .const (.int .u64 1))] ?_ (some 14) ?_ ma.cells.toArray (by rw [HCA.out]; kernel_rfl) ?_); rfl; rfl; rfl)
    | ((with_reducible refine wpList_buildTo ?_ 45 #[(0, .const (.int .i64 4)), (3, .const (.int .u64 2))] ?_ (some 15) ?_ mb.cells.toArray (by rw [HCB.out]; kernel_rfl) ?_); rfl; rfl; rfl)
    | ((with_reducible refine wpList_store_row ?_ 45 (.tmp 2) (.tmp 14) ?_ A ma.cells.toArray ?_ ?_ 45 zc HZA.out HSZA.out HEA.out HALA.out ?_); rfl; rfl; rfl; rfl; rw [HWC.out])
    | ((with_reducible refine wpList_store_row ?_ 45 (.tmp 3) (.tmp 15) ?_ B mb.cells.toArray ?_ ?_ 45 zc HZB2.out HSZB.out HEB.out HALB.out ?_); rfl; rfl; rfl; rfl; rw [HWD.out])
    | ((with_reducible refine wpList_load_row ?_ 45 (.tmp 2) ?_ A ?_ 45 ma.cells.toArray (0, 0) _ HMA.out Tryd.underlying45 ?_ HSZA.out ?_); rfl; rfl; rfl; rfl))
  have HS1 := Lib.hid (netSend_any ma wd HND.out (HIA.out _) HNUM.out (by simp))
  ((with_reducible refine HS1.out.mono ?_); rintro e w2 ⟨hk2, tA2, tc2, bl2, ms2, er2, rfl, hn2, hr2⟩)
  obtain ⟨rfl, rfl⟩ : er2 = 0 ∧ ms2 = [ma] := by
    rcases hr2 with ⟨_, _, h1, h2⟩ | ⟨h, _⟩ | ⟨_, h, _⟩
    · exact ⟨h1, by simpa using h2⟩
    · exact absurd HRA.out.1 h
    · simp at h
  have HN2 := Lib.hid hn2
  have HMB2 : Hid (w2.heap[B]? = some (.cells mb.cells.toArray 45 (0, 0))) := Lib.hid (hk2.keepWhole HMB.out (by decide) (by decide))
  clear hk2 hn2 hr2 HS1
  go_wp2_with ((with_reducible refine wpList_load_row ?_ 45 (.tmp 3) ?_ B ?_ 45 mb.cells.toArray (0, 0) _ HMB2.out Tryd.underlying45 ?_ HSZB.out ?_); rfl; rfl; rfl; rfl)
  have HS2 := Lib.hid (netSend_any mb w2 HN2.out (HIB.out _) HNUM.out (by simp))
  ((with_reducible refine HS2.out.mono ?_); rintro e w3 ⟨hk3, tA3, tc3, bl3, ms3, er3, rfl, hn3, hr3⟩)
  obtain ⟨rfl, rfl⟩ : er3 = 0 ∧ ms3 = [ma, mb] := by
    rcases hr3 with ⟨_, _, h1, h2⟩ | ⟨h, _⟩ | ⟨_, h, _⟩
    · exact ⟨h1, by simpa using h2⟩
    · exact absurd HRB.out.1 h
    · simp at h
  have HN3 := Lib.hid hn3
  clear hk3 hn3 hr3 HS2
  go_wp2_with fail
  ((with_reducible refine (netCopy_any 0 w3 HN3.out (by simp)).mono ?_); rintro e w4 ⟨hk4, tA4, tc4, bl4, ms4, b4, rfl, hn4, hr4⟩)
  obtain ⟨rfl, rfl⟩ : b4 = true ∧ ms4 = [ma, mb, ma] := by
    rcases hr4 with ⟨h1, _, j, hj, h2, h3⟩ | ⟨_, h, _⟩
    · have : j = 0 := by omega
      subst this
      exact ⟨h1, by simpa using h3⟩
    · exact absurd ⟨⟨by omega, by simp⟩, by simp⟩ h
  have HN4 := Lib.hid hn4
  clear hk4 hn4 hr4
  go_wp2_with fail
  ((with_reducible refine (netTake_any 0 w4 HN4.out HNUM.out (by simp)).mono ?_); rintro e w5 ⟨hk5, m5, tA5, tc5, bl5, hi5, _, hr5⟩)
  obtain ⟨hv5, rfl, hn5⟩ : m5.v = 1 ∧ e = .returned (.tuple #[.agg m5.cells.toArray, .bool true]) ∧ NetAt w w5 N tA5 tc5 bl5 [mb, ma] := by
    rcases hr5 with ⟨j, hj, h2, _, h3, h4, h5⟩ | ⟨h, _⟩
    · have : j = 0 := by omega
      subst this
      exact ⟨by rw [h3.v]; exact HRA.out.2, h4, by simpa using h5⟩
    · exact absurd ⟨by omega, by simp⟩ h
  have HN5 := Lib.hid hn5
  have HI5 := Lib.hid hi5
  clear hk5 hi5 hn5 hr5
  obtain ⟨G5, hG5⟩ : ∃ G, w5.heap.size = G := ⟨_, rfl⟩
  obtain ⟨w6a, hw6a⟩ : ∃ wa, w5.alloc (.cells zc 45) = wa := ⟨_, rfl⟩
  have HZ5 : Hid (w6a.heap[G5]? = some (.cells zc 45 (0, 0))) := Lib.hid (by rw [← hw6a, ← hG5]; exact heap_alloc_new w5 _)
  obtain ⟨w6, hw6⟩ : ∃ w6, w6a.setRow G5 m5.cells.toArray = w6 := ⟨_, rfl⟩
  have HW6 := Lib.hid hw6
  have hk6 : Same w5 w6 := by rw [← hw6, ← hw6a]; exact ((Keeps.refl _ _).alloc _).setRow _ _ (.inl (by omega))
  have HM6 : Hid (Whole w6 G5 45 m5.cells) := Lib.hid (by rw [← hw6]; exact setRow_heap _ _ _ _ _ _ HZ5.out)
  have HN6 := Lib.hid (HN5.out.keepSame hk6)
  have HSZ5 := Lib.hid (Tryd.sizeMsgOf m5 HI5.out.hd)
  have HE5 : Hid (zc.size = m5.cells.toArray.size) := Lib.hid (by rw [HZC.out, List.size_toArray, m5.cells_length HI5.out.hd])
  have HAL5 : Hid (m5.cells.toArray.all (·.oneCell') = true) := Lib.hid m5.cells_all
  have HV5 := Lib.hid hv5
  clear hk6 hw6 hv5
  go_wp2_with ((with_reducible refine wpList_store_row ?_ 45 (.tmp 5) (.tmp 27) ?_ G5 m5.cells.toArray ?_ ?_ 45 zc HZ5.out HSZ5.out HE5.out HAL5.out ?_); rfl; rfl; rfl; rfl; rw [HW6.out])
  clear hG5 hw6a
  ((with_reducible refine (netPeek_any 0 w6 HN6.out HNUM.out).mono ?_); rintro e w7 ⟨hk7, m7, hi7, _, hr7⟩)
  obtain ⟨hv7, rfl⟩ : m7.v = 2 ∧ e = .returned (.tuple #[.agg m7.cells.toArray, .bool true]) := by
    rcases hr7 with ⟨j, hj, h2, _, h3, h4⟩ | ⟨h, _⟩
    · have : j = 0 := by omega
      subst this
      exact ⟨by rw [h3.v]; exact HRB.out.2, h4⟩
    · exact absurd ⟨by omega, by simp⟩ h
  have HN7 := Lib.hid (HN6.out.keepSame hk7)
  have HM7 := Lib.hid (HM6.out.keep hk7 (fun e => e))
  have HI7 := Lib.hid hi7
  clear hk7 hi7 hr7
  obtain ⟨G7, hG7⟩ : ∃ G, w7.heap.size = G := ⟨_, rfl⟩
  obtain ⟨w8a, hw8a⟩ : ∃ wa, w7.alloc (.cells zc 45) = wa := ⟨_, rfl⟩
  have HZ7 : Hid (w8a.heap[G7]? = some (.cells zc 45 (0, 0))) := Lib.hid (by rw [← hw8a, ← hG7]; exact heap_alloc_new w7 _)
  obtain ⟨w8, hw8⟩ : ∃ w8, w8a.setRow G7 m7.cells.toArray = w8 := ⟨_, rfl⟩
  have HW8 := Lib.hid hw8
  have hk8 : Same w7 w8 := by rw [← hw8, ← hw8a]; exact ((Keeps.refl _ _).alloc _).setRow _ _ (.inl (by omega))
  have HM8 : Hid (Whole w8 G7 45 m7.cells) := Lib.hid (by rw [← hw8]; exact setRow_heap _ _ _ _ _ _ HZ7.out)
  have HN8 := Lib.hid (HN7.out.keepSame hk8)
  have HM58 := Lib.hid (HM7.out.keep hk8 (fun e => e))
  have HSZ7 := Lib.hid (Tryd.sizeMsgOf m7 HI7.out.hd)
  have HE7 : Hid (zc.size = m7.cells.toArray.size) := Lib.hid (by rw [HZC.out, List.size_toArray, m7.cells_length HI7.out.hd])
  have HAL7 : Hid (m7.cells.toArray.all (·.oneCell') = true) := Lib.hid m7.cells_all
  have HV7 := Lib.hid hv7
  clear hk8 hw8 hv7
  go_wp2_with ((with_reducible refine wpList_store_row ?_ 45 (.tmp 7) (.tmp 32) ?_ G7 m7.cells.toArray ?_ ?_ 45 zc HZ7.out HSZ7.out HE7.out HAL7.out ?_); rfl; rfl; rfl; rfl; rw [HW8.out])
  clear hG7 hw8a
  ((with_reducible refine (netPeek_any 1 w8 HN8.out HNUM.out).mono ?_); rintro e w9 ⟨hk9, m9, hi9, _, hr9⟩)
  obtain ⟨hv9, rfl⟩ : m9.v = 1 ∧ e = .returned (.tuple #[.agg m9.cells.toArray, .bool true]) := by
    rcases hr9 with ⟨j, hj, h2, _, h3, h4⟩ | ⟨h, _⟩
    · have : j = 1 := by omega
      subst this
      exact ⟨by rw [h3.v]; exact HRA.out.2, h4⟩
    · exact absurd ⟨by omega, by simp⟩ h
  have HN9 := Lib.hid (HN8.out.keepSame hk9)
  have HM59 := Lib.hid (HM58.out.keep hk9 (fun e => e))
  have HM79 := Lib.hid (HM8.out.keep hk9 (fun e => e))
  have HI9 := Lib.hid hi9
  clear hk9 hi9 hr9
  obtain ⟨G9, hG9⟩ : ∃ G, w9.heap.size = G := ⟨_, rfl⟩
  obtain ⟨w10a, hw10a⟩ : ∃ wa, w9.alloc (.cells zc 45) = wa := ⟨_, rfl⟩
  have HZ9 : Hid (w10a.heap[G9]? = some (.cells zc 45 (0, 0))) := Lib.hid (by rw [← hw10a, ← hG9]; exact heap_alloc_new w9 _)
  obtain ⟨w10, hw10⟩ : ∃ w10, w10a.setRow G9 m9.cells.toArray = w10 := ⟨_, rfl⟩
  have HW10 := Lib.hid hw10
  have hk10 : Same w9 w10 := by rw [← hw10, ← hw10a]; exact ((Keeps.refl _ _).alloc _).setRow _ _ (.inl (by omega))
  have HM910 : MsgAt w10 G9 m9 := ⟨by rw [← hw10]; exact setRow_heap _ _ _ _ _ _ HZ9.out, HI9.out.hd⟩
  have HM510 : MsgAt w10 G5 m5 := ⟨HM59.out.keep hk10 (fun e => e), HI5.out.hd⟩
  have HM710 : MsgAt w10 G7 m7 := ⟨HM79.out.keep hk10 (fun e => e), HI7.out.hd⟩
  have HN10 := Lib.hid (HN9.out.keepSame hk10)
  have cv5 : w10.cell? ⟨G5, 3, none⟩ = some (.int .u64 1) := by
    have := HM510.low 3 _ (by omega) rfl
    rw [this, HV5.out]; rfl
  have cv7 : w10.cell? ⟨G7, 3, none⟩ = some (.int .u64 2) := by
    have := HM710.low 3 _ (by omega) rfl
    rw [this, HV7.out]; rfl
  have cv9 : w10.cell? ⟨G9, 3, none⟩ = some (.int .u64 1) := by
    have := HM910.low 3 _ (by omega) rfl
    rw [this, hv9]; rfl
  have HSZ9 := Lib.hid (Tryd.sizeMsgOf m9 HI9.out.hd)
  have HE9 : Hid (zc.size = m9.cells.toArray.size) := Lib.hid (by rw [HZC.out, List.size_toArray, m9.cells_length HI9.out.hd])
  have HAL9 : Hid (m9.cells.toArray.all (·.oneCell') = true) := Lib.hid m9.cells_all
  clear hk10 hw10 hv9 HM910 HM510 HM710
  go_wp2_with ((with_reducible refine wpList_store_row ?_ 45 (.tmp 9) (.tmp 37) ?_ G9 m9.cells.toArray ?_ ?_ 45 zc HZ9.out HSZ9.out HE9.out HAL9.out ?_); rfl; rfl; rfl; rfl; rw [HW10.out])
  ((with_reducible refine (netLen_any w10 HN10.out).mono ?_); rintro e w11 ⟨rfl, hk11⟩)
  have HK11 : Hid (Same w w11) := Lib.hid (HN10.out.same.trans hk11 (fun _ _ e => e))
  clear hk11
  go_wp2
  go_ret
  exact ⟨rfl, HK11.out⟩
end Go.Proofs.YtafgiljgefeefaaDoor
namespace Go.Proofs.YtafgiljgefeefaaDoor
open Go.RowKit Go.ChangeShapes
set_option linter.unusedVariables false

/-- A slice of numbers. -/
def U64s (w : World) (x : Value) (zs : List Nat) : Prop :=
  (∃ a c, x = .slice (some a) zs.length c ∧ ∀ (j z : Nat), zs[j]? = some z → w.cell? (a.add j) = some (.int .u64 (z : Int))) ∨ (∃ c, x = .slice none 0 c ∧ zs = [])
theorem U64s.at {w : World} {ao : Option Addr} {n c : Nat} {zs : List Nat} (h : U64s w (.slice ao n c) zs) {j : Nat} (hj : j < zs.length) : ∃ a, ao = some a ∧ ∀ w', Same w w' → w'.cell? (a.add j) = some (.int .u64 (zs[j] : Int)) := by
  rcases h with ⟨a, c', e, h⟩ | ⟨c', e, h⟩
  · simp only [Value.slice.injEq] at e
    refine ⟨a, e.1, fun w' k => ?_⟩
    have h1 := h j zs[j] (List.getElem?_eq_getElem hj)
    rw [World.cell?_of_block (w := w) (k.block _ (World.block_lt_of_cell? w _ h1) (fun e => e))]
    exact h1
  · subst h; simp at hj
section
variable {H : Type} {enc : TypeId × Value → H} {P : Program}
theorem open_u64s {W : World} {base : Nat} {t e : TypeId} {v : Value} {d : DataW H} {ps : List MemPlace} (ht : P.underlying t = some (.slice e)) (he : P.underlying e = some (.int .u64)) (hc : P.cellsOf e = 1)
    (hok : Value.okWide P W .any base t v) (h : DataW.Trod enc P W 0 (fun _ => true) true t v d ps) :
    ∃ zs ao cap, v = .slice ao zs.length cap ∧ U64s W v zs ∧ (∀ z ∈ zs, z < 18446744073709551616) := by
  obtain ⟨a0, len, cap, rfl⟩ := Go.WideShapes.okWide_slice ht hok
  obtain ⟨fuel, hf⟩ := h
  have hf' : DataW.trod enc P W 0 (fun _ => true) true fuel t [.slice a0 len cap] = some (d, ps) := by simpa [Value.cells] using hf
  rcases open_ints ht he hc hf' with ⟨hcs, hx⟩ | ⟨a, len, cap, zs, hcs, _, hl, hm, hz, hx, hcell, hwz⟩
  · simp only [List.cons.injEq, and_true, Value.slice.injEq] at hcs
    obtain ⟨rfl, rfl, rfl⟩ := hcs
    exact ⟨[], none, 0, rfl, .inr ⟨0, rfl, rfl⟩, by simp⟩
  · simp only [List.cons.injEq, and_true] at hcs
    rw [hcs]
    simp only [if_true] at hz
    have hlen : ((zs.take len).map Int.toNat).length = len := by simp; omega
    refine ⟨(zs.take len).map Int.toNat, some a, cap, by rw [hlen], .inl ⟨a, cap, by rw [hlen], fun j u hu => ?_⟩, fun z hz2 => ?_⟩
    · have hj : j < len := by
        have := (List.getElem?_eq_some_iff.1 hu).1
        rw [hlen] at this; exact this
      have hjz : j < zs.length := by omega
      rw [hcell j hjz]
      have hb := bounds_u64 (hwz zs[j] (List.getElem_mem hjz))
      have e2 : ((zs.take len).map Int.toNat)[j]? = some zs[j].toNat := by simp [hj, hjz]
      rw [e2] at hu
      rw [List.getD_eq_getElem?_getD, List.getElem?_eq_getElem hjz, Option.getD_some, ← Option.some.inj hu]
      rw [Int.toNat_of_nonneg hb.1]
    · obtain ⟨y, hy, rfl⟩ := List.mem_map.1 hz2
      have hb := bounds_u64 (hwz y (List.mem_of_mem_take hy))
      omega
end

set_option maxRecDepth 100000 in
set_option maxHeartbeats 12800000 in
theorem first_any (ao : Option Addr) (c : Nat) (zs : List Nat) (w : World) (hx : U64s w (.slice ao zs.length c) zs) (hz : ∀ z ∈ zs, z < 18446744073709551616) (hN : Nums w) :
    Calls Tryd.prog 5 #[.slice ao zs.length c] w fun e w' => e = .returned (.bool true) ∧ Same w w' := by
  have HZM := Lib.hid Tryd.zeroMsgW
  have HX := Lib.hid hx
  have HZS := Lib.hid hz
  have HNUM := Lib.hid hN
  obtain ⟨L, hL⟩ : ∃ L, zs.length = L := ⟨_, rfl⟩
  rw [hL]
  rw [hL] at HX
  have HL := Lib.hid hL
  clear hx hz hN hL
  go_enter Tryd.func5, Tryd.ntmps5
  go_wp2_with fail
  ((with_reducible refine (speaks24 _ HNUM.out).mono ?_); rintro e w1 ⟨rfl, hk1⟩)
  have HK1 := Lib.hid hk1
  have HNUM1 : Hid (Nums w1) := Lib.hid (HNUM.out.keep hk1 (fun e => e))
  clear hk1
  go_wp2_with fail
  ((with_reducible refine (netNew_any _).mono ?_); rintro e w2 ⟨rfl, hn2, hk2⟩)
  have HN2 := Lib.hid hn2
  have HK2 : Hid (Same w w2) := Lib.hid (HK1.out.trans hk2 (fun _ _ e => e))
  obtain ⟨N, hN⟩ : ∃ N, w1.heap.size = N := ⟨_, rfl⟩
  rw [hN] at HN2 ⊢
  clear hn2 hk2 hN
  by_cases hbig : 300 < L
  · have hbi : (300 : Int) < (L : Int) := by omega
    clear hbig
    go_wp2
    go_ret
    exact ⟨rfl, HK2.out⟩
  have hbi : ¬ (300 : Int) < (L : Int) := by omega
  have hL300 : L ≤ 300 := by omega
  clear hbig
  go_wp2_with fail
  go_loopw [26] (fun i wr => ∃ (j : Nat) (tA : Option Addr) (tc : Nat) (bl : List (Value × List UInt8)), j ≤ L ∧ i = .int .i64 j ∧ Hid (NetAt w1 wr N tA tc bl ((zs.take j).map (vm 5)))) (fun i _ => L - (intOf i).toNat)
  case atStart => exact ⟨0, _, _, _, by omega, rfl, by simpa using HN2⟩
  case round =>
    obtain ⟨j, tA, tc, bl, hj, rfl, HN⟩ := hrel
    by_cases hlt : j < L
    · have hjn : (j : Int) < (L : Int) := by omega
      have hj0 : (0 : Int) ≤ (j : Int) := by omega
      have hjz : j < zs.length := by have := HL.out; omega
      obtain ⟨a, rfl, hcell⟩ := HX.out.at hjz
      have hc := hcell wr (HK1.out.trans HN.out.same (fun _ _ e => e))
      have HZ : Hid (zs[j] < 18446744073709551616) := Lib.hid (HZS.out _ (List.getElem_mem hjz))
      have HTK : Hid ((zs.take j).map (vm 5) ++ [vm 5 zs[j]] = (zs.take (j + 1)).map (vm 5)) := Lib.hid (by
        rw [List.take_add_one, List.getElem?_eq_getElem hjz, List.map_append]; rfl)
      have HLJ : Hid (((zs.take j).map (vm 5)).length = j) := Lib.hid (by rw [List.length_map, List.length_take]; omega)
      generalize zs[j] = z at hc HZ HTK
      clear hcell hjz
      go_wp2_with ((with_reducible refine wpList_buildTo ?_ 45 #[(0, .const (.int .i64 5)), (3, .tmp 31)] ?_ (some 32) ?_ (vm 5 z).cells.toArray (by kernel_rfl) ?_); rfl; rfl; rfl)
      ((with_reducible refine (netSend_any (vm 5 z) _ HN.out (vm_in 5 z HZ.out _) HNUM1.out (by rw [HLJ.out]; omega)).mono ?_); rintro e w4 ⟨hk4, tA4, tc4, bl4, ms4, er4, rfl, hn4, hr4⟩)
      obtain ⟨rfl, rfl⟩ : er4 = 0 ∧ ms4 = (zs.take j).map (vm 5) ++ [vm 5 z] := by
        rcases hr4 with ⟨_, _, h1, h2⟩ | ⟨h, _⟩ | ⟨_, h, _⟩
        · exact ⟨h1, h2⟩
        · exact absurd (vm_right 5 z (by decide) (by decide)) h
        · rw [HLJ.out] at h; omega
      rw [HTK.out] at hn4
      have HN4 := Lib.hid hn4
      clear hk4 hn4 hr4 hc
      go_wp2
      go_roundw
      case rel => exact ⟨j + 1, tA4, tc4, bl4, by omega, by go_num, HN4⟩
      case measure => simp [intOf]; omega
    · obtain rfl : j = L := by omega
      have hjn : ¬ (j : Int) < (j : Int) := by omega
      have HN5 : Hid (NetAt w1 wr N tA tc bl (zs.map (vm 5))) := Lib.hid (by
        have := HN.out
        rwa [List.take_of_length_le (by have := HL.out; omega)] at this)
      obtain ⟨wq, rfl⟩ : ∃ wq : World, wq = wr := ⟨_, rfl⟩
      clear HN HN2
      have hzm := HZM.out
      go_wp2_with fail
      go_loopw [38] (fun i wr => ∃ (k : Nat) (tA : Option Addr) (tc : Nat) (bl : List (Value × List UInt8)), k ≤ j ∧ i = .int .i64 k ∧ Hid (NetAt w1 wr N tA tc bl ((zs.drop k).map (vm 5)))) (fun i _ => j - (intOf i).toNat)
      case atStart => exact ⟨0, _, _, _, by omega, rfl, by simpa using HN5⟩
      case round =>
        obtain ⟨k, tB, td, bm, hk, rfl, HN⟩ := hrel
        by_cases hlt2 : k < j
        · have hkn : (k : Int) < (j : Int) := by omega
          have hk0 : (0 : Int) ≤ (k : Int) := by omega
          have hkz : k < zs.length := by have := HL.out; omega
          obtain ⟨a, rfl, hcell⟩ := HX.out.at hkz
          have hc := hcell wr (HK1.out.trans HN.out.same (fun _ _ e => e))
          have HDR : Hid ((zs.drop k).map (vm 5) = vm 5 zs[k] :: (zs.drop (k + 1)).map (vm 5)) := Lib.hid (by
            rw [List.drop_eq_getElem_cons hkz, List.map_cons])
          have HLJ : Hid (((zs.drop (k + 1)).map (vm 5)).length = j - 1 - k) := Lib.hid (by rw [List.length_map, List.length_drop, HL.out]; omega)
          generalize zs[k] = z at hc HDR
          rw [HDR.out] at HN
          clear hcell hkz
          go_wp2_with fail
          clear hc
          ((with_reducible refine (netPeek_any 0 wr HN.out HNUM1.out).mono ?_); rintro e w6 ⟨hk6, m6, hi6, _, hr6⟩)
          obtain ⟨hv6, rfl⟩ : m6.v = z ∧ e = .returned (.tuple #[.agg m6.cells.toArray, .bool true]) := by
            rcases hr6 with ⟨i, hi, h2, _, h3, h4⟩ | ⟨h, _⟩
            · have : i = 0 := by omega
              subst this
              exact ⟨h3.v, h4⟩
            · exact absurd ⟨by omega, by simp⟩ h
          have HN6 := Lib.hid (HN.out.keepSame hk6)
          have HI6 := Lib.hid hi6
          have HV6 := Lib.hid hv6
          clear hk6 hi6 hr6 hv6
          obtain ⟨G6, hG6⟩ : ∃ G, w6.heap.size = G := ⟨_, rfl⟩
          obtain ⟨w7a, hw7a⟩ : ∃ wa, w6.alloc (.cells zeroM.cells.toArray 45) = wa := ⟨_, rfl⟩
          have HZ6 : Hid (w7a.heap[G6]? = some (.cells zeroM.cells.toArray 45 (0, 0))) := Lib.hid (by rw [← hw7a, ← hG6]; exact heap_alloc_new w6 _)
          obtain ⟨w7, hw7⟩ : ∃ w7, w7a.setRow G6 m6.cells.toArray = w7 := ⟨_, rfl⟩
          have HW7 := Lib.hid hw7
          have hk7 : Same w6 w7 := by rw [← hw7, ← hw7a]; exact ((Keeps.refl _ _).alloc _).setRow _ _ (.inl (by omega))
          have HM7 : Hid (Whole w7 G6 45 m6.cells) := Lib.hid (by rw [← hw7]; exact setRow_heap _ _ _ _ _ _ HZ6.out)
          have HN7 := Lib.hid (HN6.out.keepSame hk7)
          have HSZ6 := Lib.hid (Tryd.sizeMsgOf m6 HI6.out.hd)
          have HE6 : Hid (zeroM.cells.toArray.size = m6.cells.toArray.size) := Lib.hid (by rw [List.size_toArray, List.size_toArray, m6.cells_length HI6.out.hd, zeroM.cells_length rfl])
          have HAL6 : Hid (m6.cells.toArray.all (·.oneCell') = true) := Lib.hid m6.cells_all
          clear hk7 hw7
          go_wp2_with ((with_reducible refine wpList_store_row ?_ 45 (.tmp 8) (.tmp 46) ?_ G6 m6.cells.toArray ?_ ?_ 45 zeroM.cells.toArray HZ6.out HSZ6.out HE6.out HAL6.out ?_); rfl; rfl; rfl; rfl; rw [HW7.out])
          clear hG6 hw7a
          ((with_reducible refine (netTake_any 0 w7 HN7.out HNUM1.out (by rw [List.length_cons, HLJ.out]; omega)).mono ?_); rintro e w8 ⟨hk8, m8, tC, te, bn, hi8, _, hr8⟩)
          obtain ⟨hv8, rfl, hn8⟩ : m8.v = z ∧ e = .returned (.tuple #[.agg m8.cells.toArray, .bool true]) ∧ NetAt w1 w8 N tC te bn ((zs.drop (k + 1)).map (vm 5)) := by
            rcases hr8 with ⟨i, hi, h2, _, h3, h4, h5⟩ | ⟨h, _⟩
            · have : i = 0 := by omega
              subst this
              exact ⟨h3.v, h4, by simpa using h5⟩
            · exact absurd ⟨by omega, by simp⟩ h
          have HN8 := Lib.hid hn8
          have HI8 := Lib.hid hi8
          have hM8 : Whole w8 G6 45 m6.cells := hk8.keepWhole HM7.out (by decide) (by decide)
          obtain ⟨G8, hG8⟩ : ∃ G, w8.heap.size = G := ⟨_, rfl⟩
          obtain ⟨w9a, hw9a⟩ : ∃ wa, w8.alloc (.cells zeroM.cells.toArray 45) = wa := ⟨_, rfl⟩
          have HZ8 : Hid (w9a.heap[G8]? = some (.cells zeroM.cells.toArray 45 (0, 0))) := Lib.hid (by rw [← hw9a, ← hG8]; exact heap_alloc_new w8 _)
          obtain ⟨w9, hw9⟩ : ∃ w9, w9a.setRow G8 m8.cells.toArray = w9 := ⟨_, rfl⟩
          have HW9 := Lib.hid hw9
          have hk9 : Same w8 w9 := by rw [← hw9, ← hw9a]; exact ((Keeps.refl _ _).alloc _).setRow _ _ (.inl (by omega))
          have HM9 : MsgAt w9 G8 m8 := ⟨by rw [← hw9]; exact setRow_heap _ _ _ _ _ _ HZ8.out, hi8.hd⟩
          have HM6 : MsgAt w9 G6 m6 := ⟨hM8.keep hk9 (fun e => e), HI6.out.hd⟩
          have HN9 := Lib.hid (HN8.out.keepSame hk9)
          have HSZ8 := Lib.hid (Tryd.sizeMsgOf m8 HI8.out.hd)
          have HE8 : Hid (zeroM.cells.toArray.size = m8.cells.toArray.size) := Lib.hid (by rw [List.size_toArray, List.size_toArray, m8.cells_length HI8.out.hd, zeroM.cells_length rfl])
          have HAL8 : Hid (m8.cells.toArray.all (·.oneCell') = true) := Lib.hid m8.cells_all
          have cv6 : w9.cell? ⟨G6, 3, none⟩ = some (.int .u64 (z : Int)) := by
            have := HM6.low 3 _ (by omega) rfl
            rw [this, HV6.out]
          have cv8 : w9.cell? ⟨G8, 3, none⟩ = some (.int .u64 (z : Int)) := by
            have := HM9.low 3 _ (by omega) rfl
            rw [this, hv8]
          have hzz : ((z : Int) != (z : Int)) = false := by simp
          have HLEN := Lib.hid (netLen_any w9 HN9.out)
          rw [HLJ.out] at HLEN
          have hcast : ((j - 1 - k : Nat) : Int) = (j : Int) - 1 - (k : Int) := by omega
          rw [hcast] at HLEN
          have hne : (((j : Int) - 1 - (k : Int)) != ((j : Int) - 1 - (k : Int))) = false := by simp
          have u1 : IntKind.i64.wrap ((j : Int) - 1) = (j : Int) - 1 := IntWalk.i64_in _ (by omega)
          have u2 : IntKind.i64.wrap ((j : Int) - 1 - (k : Int)) = (j : Int) - 1 - (k : Int) := IntWalk.i64_in _ (by omega)
          clear hk8 hn8 hi8 hr8 hv8 hk9 hw9 HM9 HM6 hM8 hcast
          go_wp2_with ((with_reducible refine wpList_store_row ?_ 45 (.tmp 10) (.tmp 51) ?_ G8 m8.cells.toArray ?_ ?_ 45 zeroM.cells.toArray HZ8.out HSZ8.out HE8.out HAL8.out ?_); rfl; rfl; rfl; rfl; rw [HW9.out])
          clear hG8 hw9a
          ((with_reducible refine HLEN.out.mono ?_); rintro e w10 ⟨rfl, hk10⟩)
          have HN10 := Lib.hid (HN9.out.keepSame hk10)
          clear hk10
          go_wp2
          go_roundw
          case rel => exact ⟨k + 1, tC, te, bn, by omega, by go_num, HN10⟩
          case measure => simp [intOf]; omega
        · obtain rfl : k = j := by omega
          have hkn : ¬ (k : Int) < (k : Int) := by omega
          have HKE : Hid (Same w wr) := Lib.hid (HK1.out.trans HN.out.same (fun _ _ e => e))
          clear HN
          go_wp2
          go_ret
          exact ⟨rfl, HKE.out⟩
end Go.Proofs.YtafgiljgefeefaaDoor
