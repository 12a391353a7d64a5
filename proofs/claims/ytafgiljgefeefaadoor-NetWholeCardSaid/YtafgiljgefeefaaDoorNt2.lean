/- What a net's functions do: Send, Drop, Copy, Take. -/
import Derived.Test.YtafgiljgefeefaaDoorWm16
import Derived.Test.YtafgiljgefeefaaDoorLayD
import Derived.Lib.OwnBridge
namespace Go.Proofs.YtafgiljgefeefaaDoor
open Go.RowKit
set_option linter.unusedVariables false

abbrev Sl := Option Addr × Nat × Nat
def encSl (s : Sl) : Value := .slice s.1 s.2.1 s.2.2
theorem sl_list : ∀ (l : List Value), (∀ v ∈ l, ∃ a n c, v = .slice a n c) → ∃ s : List Sl, l = s.map encSl
  | [], _ => ⟨[], rfl⟩
  | v :: l, h => by
    obtain ⟨a, n, c, rfl⟩ := h v (by simp)
    obtain ⟨s, rfl⟩ := sl_list l (fun x hx => h x (by simp [hx]))
    exact ⟨(a, n, c) :: s, rfl⟩
theorem take_cut {α : Type} (l : List α) (k : Nat) (z : List α) (h : k < l.length) : (l.take k ++ l.drop (k + 1) ++ z).take (l.length - 1) = l.eraseIdx k := by
  rw [List.take_append_of_le_length (by simp; omega), List.take_of_length_le (by simp; omega), List.eraseIdx_eq_take_drop_succ]
theorem deleteB_any (base g cap : Nat) (vs : List Value) (k : Nat) (w : World) (hv : ∀ v ∈ vs, ∃ a n c, v = .slice a n c) (hown : w.ownsRow base 33 1 (.slice (some ⟨g, 0, none⟩) vs.length cap) vs.length vs) (hk : k < vs.length) :
    Calls Tryd.prog 25 #[.slice (some ⟨g, 0, none⟩) vs.length cap, .int .i64 k, .int .i64 ((k + 1 : Nat) : Int)] w fun e w' => e = .returned (.slice (some ⟨g, 0, none⟩) (vs.length - 1) cap) ∧ w'.ownsRow base 33 1 (.slice (some ⟨g, 0, none⟩) (vs.length - 1) cap) (vs.length - 1) (vs.eraseIdx k) ∧ Keeps (fun q => q = g) w w' := by
  obtain ⟨sl, hsl⟩ := sl_list vs hv
  have hl : sl.length = vs.length := by rw [hsl, List.length_map]
  obtain ⟨ib, hib, hb0, hb1, hb2⟩ := info_partsW Tryd.infoB8W
  rw [hsl] at hown
  rw [List.length_map, hl] at hown
  obtain ⟨g', cap', e, _, hlt, hn, hm, hz, hH⟩ := Lib.holds_of_ownsRow hown (by simp)
  simp only [Value.slice.injEq, Option.some.injEq, Addr.mk.injEq] at e
  obtain ⟨⟨rfl, _⟩, _, rfl⟩ := e
  have hd : sl.toArray.size = vs.length := by rw [List.size_toArray, hl]
  have h := AnyE.slices_Delete (α := Sl) laysDelete encSl (fun _ => rfl) (none, 0, 0) (fun w => by kernel_rfl) ib hib hb1 g 0 cap k (k + 1) sl.toArray w hH (by omega) (by unfold maxLen at hm; omega) (by omega) (by omega)
  rw [hd] at h
  refine Calls.mono (f := 25) h ?_
  rintro e w' ⟨he, q, hw⟩
  refine ⟨by rw [he, show vs.length - (k + 1 - k) = vs.length - 1 by omega], ?_, ?_⟩
  · rw [hw]
    have := Lib.ownsRow_putRow (q := q) (k := vs.length - 1) (ys := sl.take k ++ sl.drop (k + 1) ++ List.replicate (k + 1 - k) ((none, 0, 0) : Sl)) hown (by simp; omega) (by omega)
    rw [← hl, take_cut sl k _ (by omega), hl] at this
    have e1 : vs.eraseIdx k = (sl.eraseIdx k).map encSl := by rw [hsl, List.eraseIdx_eq_take_drop_succ, List.eraseIdx_eq_take_drop_succ, List.map_append, List.map_take, List.map_drop]
    rw [e1]
    exact this
  · rw [hw]
    exact ⟨rfl, rfl, rfl, by simp [Sort.putRow, Sort.mapBlock, Sort.ahead], fun j hj hn => by
      simp [Sort.putRow, Sort.mapBlock, Sort.ahead, Array.getElem?_modify, show g ≠ j from fun e => hn e.symm]⟩

/-- A net's block and its texts. -/
structure NetAt (w0 w : World) (N : Nat) (tA : Option Addr) (tc : Nat) (bl : List (Value × List UInt8)) (ms : List Msg) : Prop where
  obj : Whole w N 62 [.slice tA bl.length tc]
  own : w.ownsRow (N + 1) 33 1 (.slice tA bl.length tc) bl.length (bl.map (·.1))
  txt : ∀ x ∈ bl, TxtB (N + 1) w x
  byt : bl.map (·.2) = ms.map Msg.bytes
  good : ∀ m ∈ ms, m.Good
  same : Same w0 w
  new : w0.heap.size ≤ N
theorem NetAt.len {w0 w : World} {N : Nat} {tA : Option Addr} {tc : Nat} {bl : List (Value × List UInt8)} {ms : List Msg} (h : NetAt w0 w N tA tc bl ms) : bl.length = ms.length := by
  have := congrArg List.length h.byt; simpa using this
/-- A block of a type that a net doesn't have. -/
def OffNet (w : World) (q : Nat) : Prop := ∃ cur t, w.heap[q]? = some (.cells cur t (0, 0)) ∧ t ≠ 5 ∧ t ≠ 33 ∧ t ≠ 62
theorem NetAt.keep {S : Nat → Prop} {w0 w w' : World} {N : Nat} {tA : Option Addr} {tc : Nat} {bl : List (Value × List UInt8)} {ms : List Msg} (h : NetAt w0 w N tA tc bl ms) (k : Keeps S w w') (hs : ∀ q, S q → w.heap.size ≤ q ∨ (OffNet w q ∧ w0.heap.size ≤ q)) : NetAt w0 w' N tA tc bl ms := by
  have hlt := h.obj.lt
  refine ⟨h.obj.keep k (fun e => ?_), own_keeps k h.own (fun q e e2 => ?_), fun x hx => (h.txt x hx).keep k (fun q e => ?_), h.byt, h.good, h.same.trans k (fun q hq e => ?_), h.new⟩
  · rcases hs _ e with h1 | ⟨⟨cur, t, h1, h2, h3, h4⟩, _⟩
    · omega
    · have h5 := h.obj
      unfold Whole at h5
      rw [h5] at h1
      simp only [Option.some.injEq, Obj.cells.injEq] at h1
      exact h4 h1.2.1.symm
  · obtain ⟨cur, h5⟩ := own_typ h.own e
    have h6 := (h.own.lt q e).2
    rcases hs _ e2 with h1 | ⟨⟨cur', t, h1, h2, h3, h4⟩, _⟩
    · omega
    · rw [h5] at h1
      simp only [Option.some.injEq, Obj.cells.injEq] at h1
      exact h3 h1.2.1.symm
  · rcases hs _ e with h1 | ⟨⟨cur', t, h1, h2, h3, h4⟩, _⟩
    · exact .inr (.inl h1)
    · exact .inr (.inr ⟨cur', t, h1, h2⟩)
  · rcases hs _ e with h1 | ⟨_, h1⟩
    · have := h.same.size; omega
    · omega
theorem NetAt.keepSame {w0 w w' : World} {N : Nat} {tA : Option Addr} {tc : Nat} {bl : List (Value × List UInt8)} {ms : List Msg} (h : NetAt w0 w N tA tc bl ms) (k : Same w w') : NetAt w0 w' N tA tc bl ms := h.keep k (fun _ e => e.elim)
/-- Nothing turns but blocks of a net's own types. -/
def NetK (w w' : World) : Prop := ∃ S : Nat → Prop, Keeps S w w' ∧ ∀ q, S q → ∃ cur t, w.heap[q]? = some (.cells cur t (0, 0)) ∧ (t = 62 ∨ t = 33)
theorem NetK.of_same {w w' : World} (k : Same w w') : NetK w w' := ⟨_, k, fun q e => e.elim⟩
theorem NetK.size {w w' : World} (h : NetK w w') : w.heap.size ≤ w'.heap.size := by
  obtain ⟨S, k, _⟩ := h; exact k.size
theorem NetK.keepWhole {w w' : World} (h : NetK w w') {B : Nat} {t : TypeId} {cs : List Value} (hw : Whole w B t cs) (h1 : t ≠ 62) (h2 : t ≠ 33) : Whole w' B t cs := by
  obtain ⟨S, k, hs⟩ := h
  refine hw.keep k (fun e => ?_)
  obtain ⟨cur, t', h3, h4⟩ := hs _ e
  unfold Whole at hw
  rw [hw] at h3
  simp only [Option.some.injEq, Obj.cells.injEq] at h3
  rcases h4 with h4 | h4
  · exact h1 (h3.2.1.trans h4)
  · exact h2 (h3.2.1.trans h4)
theorem NetK.keepOwn {w w' : World} (h : NetK w w') {b : Nat} {e : TypeId} {sz n : Nat} {v : Value} {xs : List Value} (hw : w.ownsRow b e sz v n xs) (h1 : e ≠ 62) (h2 : e ≠ 33) : w'.ownsRow b e sz v n xs := by
  obtain ⟨S, k, hs⟩ := h
  refine own_keeps k hw (fun q e1 e2 => ?_)
  obtain ⟨cur, t', h3, h4⟩ := hs _ e2
  obtain ⟨cur', h5⟩ := own_typ hw e1
  rw [h5] at h3
  simp only [Option.some.injEq, Obj.cells.injEq] at h3
  rcases h4 with h4 | h4
  · exact h1 (h3.2.1.trans h4)
  · exact h2 (h3.2.1.trans h4)
theorem MsgIn.good {w : World} {m : Msg} (h : MsgIn w m) (hR : m.Right) : m.Good := ⟨hR, h.hd, h.nm, h.hs.1⟩
theorem Msg.Good.bytes_le {m : Msg} (h : m.Good) : 91 ≤ m.bytes.length ∧ m.bytes.length ≤ 40000 := by
  refine ⟨(bytes_begin h.right h.hd).1, ?_⟩
  have h1 := h.right.front_len h.hd
  have h2 := flat32 m.hs h.hs
  have h3 := txts_len (m.bs.map (·.2)) (fun b hb => by
    obtain ⟨r, h1, rfl⟩ := List.mem_map.1 hb
    exact h.right.each r h1)
  have h4 := h.right.hs
  have h5 := h.right.bs
  rw [List.length_map] at h3
  rw [m.bytes_length]
  unfold Msg.bodyB
  simp only [List.length_append, be_length]
  omega
end Go.Proofs.YtafgiljgefeefaaDoor
namespace Go.Proofs.YtafgiljgefeefaaDoor
open Go.RowKit
set_option linter.unusedVariables false

set_option maxRecDepth 100000 in
set_option maxHeartbeats 1600000 in
theorem netNew_any (w : World) : Calls Tryd.prog 7 #[] w fun e w' => e = .returned (.pointer (some ⟨w.heap.size, 0, none⟩)) ∧ NetAt w w' w.heap.size none 0 [] [] ∧ Same w w' := by
  obtain ⟨w1, hw1⟩ : ∃ w1, w.alloc (.cells #[.slice none 0 0] 62) = w1 := ⟨_, rfl⟩
  have HK : Hid (Same w w1) := Lib.hid (by rw [← hw1]; exact (Keeps.refl _ _).alloc _)
  have HO : Hid (Whole w1 w.heap.size 62 [.slice none 0 0]) := Lib.hid (by rw [← hw1]; exact heap_alloc_new w _)
  go_enter Tryd.func7, Tryd.ntmps7
  go_wp2
  go_ret
  exact ⟨rfl, ⟨HO.out, World.ownsRow_nil _ _ _ _, fun x e => (by cases e), rfl, fun x e => (by cases e), HK.out, Nat.le_refl _⟩, HK.out⟩

set_option maxRecDepth 100000 in
set_option maxHeartbeats 1600000 in
theorem netLen_any {w0 : World} {N : Nat} {tA : Option Addr} {tc : Nat} {bl : List (Value × List UInt8)} {ms : List Msg} (w : World) (h : NetAt w0 w N tA tc bl ms) :
    Calls Tryd.prog 19 #[.pointer (some ⟨N, 0, none⟩)] w fun e w' => e = .returned (.int .i64 (ms.length : Int)) ∧ Same w w' := by
  have c0 := h.obj.cell (i := 0) rfl
  have HL := Lib.hid h.len
  obtain ⟨n, hn⟩ : ∃ n, bl.length = n := ⟨_, rfl⟩
  rw [hn] at c0 HL
  clear h hn
  go_enter Tryd.func19, Tryd.ntmps19
  go_wp2
  go_ret
  exact ⟨by rw [HL.out]; rfl, Keeps.refl _ _⟩

set_option maxRecDepth 100000 in
set_option maxHeartbeats 1600000 in
theorem netHas_any {w0 : World} {N : Nat} {tA : Option Addr} {tc : Nat} {bl : List (Value × List UInt8)} {ms : List Msg} (k : Int) (w : World) (h : NetAt w0 w N tA tc bl ms) :
    Calls Tryd.prog 24 #[.pointer (some ⟨N, 0, none⟩), .int .i64 k] w fun e w' => e = .returned (.bool (decide (0 ≤ k ∧ k < (ms.length : Int)))) ∧ Same w w' := by
  have c0 := h.obj.cell (i := 0) rfl
  have HL := Lib.hid h.len
  obtain ⟨n, hn⟩ : ∃ n, bl.length = n := ⟨_, rfl⟩
  rw [hn] at c0 HL
  rw [← HL.out]
  obtain ⟨d, hd⟩ : ∃ d, decide (0 ≤ k ∧ k < (n : Int)) = d := ⟨_, rfl⟩
  rw [hd]
  have HD := Lib.hid hd
  clear h hn hd
  by_cases h1 : 0 ≤ k
  · by_cases h2 : k < (n : Int)
    · have HR : Hid (d = true) := Lib.hid (HD.out.symm.trans (decide_eq_true ⟨h1, h2⟩))
      go_enter Tryd.func24, Tryd.ntmps24
      go_wp2
      go_ret
      exact ⟨by rw [HR.out]; rfl, Keeps.refl _ _⟩
    · have HR : Hid (d = false) := Lib.hid (HD.out.symm.trans (decide_eq_false (fun e => h2 e.2)))
      go_enter Tryd.func24, Tryd.ntmps24
      go_wp2
      go_ret
      exact ⟨by rw [HR.out]; rfl, Keeps.refl _ _⟩
  · have HR : Hid (d = false) := Lib.hid (HD.out.symm.trans (decide_eq_false (fun e => h1 e.1)))
    go_enter Tryd.func24, Tryd.ntmps24
    go_wp2
    go_ret
    exact ⟨by rw [HR.out]; rfl, Keeps.refl _ _⟩

/-- What Peek answers: the message of a number, or none. -/
def PeekPost (w : World) (ms : List Msg) (k : Int) (e : Ending) (w' : World) : Prop :=
  Same w w' ∧ ∃ m : Msg, MsgIn w' m ∧ MsgBtw w.heap.size w'.heap.size m ∧
    ((∃ (j : Nat) (hj : j < ms.length), k = (j : Int) ∧ m.Right ∧ m.Eqv ms[j] ∧ e = .returned (.tuple #[.agg m.cells.toArray, .bool true])) ∨
     (¬ (0 ≤ k ∧ k < (ms.length : Int)) ∧ m = zeroM ∧ e = .returned (.tuple #[.agg m.cells.toArray, .bool false])))

set_option maxRecDepth 100000 in
set_option maxHeartbeats 6400000 in
theorem netPeek_any {w0 : World} {N : Nat} {tA : Option Addr} {tc : Nat} {bl : List (Value × List UInt8)} {ms : List Msg} (k : Int) (w : World) (h : NetAt w0 w N tA tc bl ms) (hN : Nums w0) :
    Calls Tryd.prog 17 #[.pointer (some ⟨N, 0, none⟩), .int .i64 k] w (PeekPost w ms k) := by
  have hzm := Tryd.zeroMsgW
  have H := Lib.hid h
  have HNUM := Lib.hid hN
  obtain ⟨wz, hwz⟩ : ∃ wz, w.alloc (.cells zeroM.cells.toArray 45) = wz := ⟨_, rfl⟩
  have HKZ : Hid (Same w wz) := Lib.hid (by rw [← hwz]; exact (Keeps.refl _ _).alloc _)
  have HSZW : Hid (wz.heap.size = w.heap.size + 1) := Lib.hid (by rw [← hwz]; simp)
  have HR0 : Hid (Whole wz w.heap.size 45 zeroM.cells) := Lib.hid (by rw [← hwz]; exact heap_alloc_new w _)
  have HZ := Lib.hid (h.keepSame HKZ.out)
  have HSZZ : Hid ((Tryd.prog.info? 45).map (·.size) = some zeroM.cells.toArray.size) := Lib.hid (Tryd.sizeMsgOf zeroM rfl)
  have HHAS := Lib.hid (netHas_any k wz HZ.out)
  obtain ⟨zc, hzc⟩ : ∃ z, zeroM.cells.toArray = z := ⟨_, rfl⟩
  have HZC : Hid (zc = zeroM.cells.toArray) := Lib.hid hzc.symm
  have HALZ : Hid (zc.all (·.oneCell') = true) := Lib.hid (by rw [HZC.out]; exact zeroM.cells_all)
  have HSZC : Hid ((Tryd.prog.info? 45).map (·.size) = some zc.size) := Lib.hid (by rw [HZC.out]; exact HSZZ.out)
  clear h hN hzc
  by_cases hk : 0 ≤ k ∧ k < (ms.length : Int)
  case neg =>
    rw [decide_eq_false hk] at HHAS
    have HNK := Lib.hid hk
    clear hk
    go_enter Tryd.func17, Tryd.ntmps17
    go_wp2_with fail
    clear hwz
    ((with_reducible refine HHAS.out.mono ?_); rintro e w1 ⟨rfl, hk1⟩)
    have HRS : Hid (w1.heap[w.heap.size]? = some (.cells zc 45 (0, 0))) := Lib.hid (by rw [HZC.out]; exact HR0.out.keep hk1 (fun e => e))
    have HEND : Hid (Same w (w1.setRow w.heap.size zc) ∧ (w1.setRow w.heap.size zc).heap[w.heap.size]? = some (.cells zc 45 (0, 0))) := Lib.hid
      ⟨(HKZ.out.trans hk1 (fun _ _ e => e)).setRow _ _ (.inl (Nat.le_refl _)), by
        have := (show Whole w1 w.heap.size 45 zc.toList from by unfold Whole; simpa using HRS.out).row (ds := zc.toList)
        unfold Whole at this
        simpa using this⟩
    clear hk1
    go_wp2_with (first
      | (refine wpList_buildTo (by rfl) 45 _ (by rfl) _ (by rfl) zc (by rw [HZC.out]; kernel_rfl) ?_)
      | (refine wpList_store_row (by rfl) 45 _ _ (by rfl) w.heap.size zc (by rfl) (by rfl) 45 zc HRS.out HSZC.out rfl HALZ.out ?_))
    refine bodyPost_ret (v := .tuple #[.agg zc, .bool false]) (results_row_tmp (p := 4) (u := 5) (ty := 45) rfl _ _ w.heap.size 45 _ (0, 0) _ (by rfl) HEND.out.2 Tryd.underlying45 rfl HSZC.out) rfl
      ⟨HEND.out.1, zeroM, zero_in _, zero_btw _ _, .inr ⟨HNK.out, rfl, by rw [HZC.out]⟩⟩
  obtain ⟨j, rfl⟩ : ∃ j : Nat, k = (j : Int) := ⟨k.toNat, by omega⟩
  have hj : j < ms.length := by omega
  rw [decide_eq_true hk] at HHAS
  clear hk
  go_enter Tryd.func17, Tryd.ntmps17
  go_wp2_with fail
  clear hwz
  ((with_reducible refine HHAS.out.mono ?_); rintro e w1 ⟨rfl, hk1⟩)
  have H1 := Lib.hid (HZ.out.keepSame hk1)
  have HR1 : Hid (Whole w1 w.heap.size 45 zeroM.cells) := Lib.hid (HR0.out.keep hk1 (fun e => e))
  have HK1 : Hid (Same w w1) := Lib.hid (HKZ.out.trans hk1 (fun _ _ e => e))
  have HS1 : Hid (w.heap.size + 1 ≤ w1.heap.size) := Lib.hid (by have := HSZW.out; have := hk1.size; omega)
  have hjb : j < bl.length := by rw [H1.out.len]; exact hj
  have c0 := H1.out.obj.cell (i := 0) rfl
  obtain ⟨n, hn⟩ : ∃ n, bl.length = n := ⟨_, rfl⟩
  have HN' := Lib.hid hn
  obtain ⟨x, hxx⟩ : ∃ x, bl[j] = x := ⟨_, rfl⟩
  have hmem : x ∈ bl := by rw [← hxx]; exact List.getElem_mem hjb
  have htx := H1.out.txt x hmem
  have hbytes : x.2 = (ms[j]).bytes := by
    have h1 : (bl.map (·.2))[j]? = (ms.map Msg.bytes)[j]? := by rw [H1.out.byt]
    rw [List.getElem?_map, List.getElem?_map, List.getElem?_eq_getElem hjb, List.getElem?_eq_getElem hj, hxx] at h1
    simpa using h1
  obtain ⟨xo, xc, hx1, hxb, hxs, hxc⟩ := htx.1
  obtain ⟨g, cap, tg⟩ : ∃ g cap, (.slice tA n tc : Value) = .slice (some ⟨g, 0, none⟩) n cap := by
    rcases H1.out.own.2 with ⟨e, h0⟩ | ⟨g, cap, cur, e, _⟩
    · omega
    · exact ⟨g, cap, by rw [hn] at e; exact e⟩
  simp only [Value.slice.injEq, true_and] at tg
  obtain ⟨rfl, rfl⟩ := tg
  have ct : w1.cell? ⟨g, j, none⟩ = some (.slice xo x.2.length xc) := by
    have := H1.out.own.cells rfl j x.1 (by rw [List.getElem?_map, List.getElem?_eq_getElem hjb, hxx]; rfl)
    rw [add_at, Nat.zero_add] at this
    rw [this, hx1]
  have hgood : (ms[j]).Good := H1.out.good _ (List.getElem_mem hj)
  have HG := Lib.hid hgood
  have HBY := Lib.hid hbytes
  rw [hx1] at hxb
  have hblen := hgood.bytes_le
  rw [← hbytes] at hblen
  have HRD := Lib.hid (wireRead_any xo xc x.2 w1 hxb hxs hxc (by omega) (fun e => by
    subst e
    have := hxb
    rcases this with ⟨a, c, h1, _⟩ | ⟨c, h1, h2⟩
    · simp at h1
    · rw [h2] at hblen; simp at hblen) (HNUM.out.keep H1.out.same (fun e => e)))
  unfold ReadPost at HRD
  rw [hn] at c0
  have hjn : (j : Int) < (n : Int) := by omega
  have hj0 : (0 : Int) ≤ (j : Int) := by omega
  have HJ := Lib.hid hj
  obtain ⟨L, hL⟩ : ∃ L, x.2.length = L := ⟨_, rfl⟩
  rw [hL] at ct HRD
  clear hk1 hjb hn hxx hmem htx hbytes hx1 hxb hxs hxc hgood hblen hL
  go_wp2_with fail
  clear c0 ct
  ((with_reducible refine HRD.out.mono ?_); rintro e w2 ⟨hk2, m, er, rfl, hmi, hmb, hres⟩)
  have hres2 : m.Right ∧ m.bytes = x.2 ∧ er = 0 := by
    rcases hres with h | ⟨h, _⟩
    · exact h
    · exact absurd HBY.out.symm (h _ HG.out)
  obtain ⟨hR, hB, rfl⟩ := hres2
  have HEV : Hid (m.Eqv (ms[j]'HJ.out)) := Lib.hid ((bytes_inj hR HG.out.right hmi.hd HG.out.hd hmi.nm HG.out.num hmi.hs.1 HG.out.hs).1 (hB.trans HBY.out))
  have HMR := Lib.hid hR
  have HR2 : Hid (Whole w2 w.heap.size 45 zeroM.cells) := Lib.hid (HR1.out.keep hk2 (fun e => e))
  have HM2 := Lib.hid hmi
  have HB2 := Lib.hid hmb
  have HK2 : Hid (Same w w2) := Lib.hid (HK1.out.trans hk2 (fun _ _ e => e))
  have HSM := Lib.hid (Tryd.sizeMsgOf m hmi.hd)
  have HEX : Hid (zeroM.cells.toArray.size = m.cells.toArray.size) := Lib.hid (by rw [List.size_toArray, List.size_toArray, m.cells_length hmi.hd, zeroM.cells_length rfl])
  obtain ⟨wa, hwa⟩ : ∃ wa, w2.alloc (.cells zeroM.cells.toArray 45) = wa := ⟨_, rfl⟩
  have hka : Same w2 wa := by rw [← hwa]; exact (Keeps.refl _ _).alloc _
  have HMA : Hid (Whole wa w2.heap.size 45 zeroM.cells) := Lib.hid (by rw [← hwa]; exact heap_alloc_new w2 _)
  obtain ⟨w3, hw3⟩ : ∃ w3, wa.setRow w2.heap.size m.cells.toArray = w3 := ⟨_, rfl⟩
  have HW3 := Lib.hid hw3
  have hk3 : Same w2 w3 := by rw [← hw3]; exact hka.setRow _ _ (.inl (Nat.le_refl _))
  have HM3 : Hid (w3.heap[w2.heap.size]? = some (.cells m.cells.toArray 45 (0, 0))) := Lib.hid (by rw [← hw3]; exact HMA.out.row)
  have HR3 : Hid (Whole w3 w.heap.size 45 zeroM.cells) := Lib.hid (HR2.out.keep hk3 (fun e => e))
  have HFIN : Hid (Same w (w3.setRow w.heap.size m.cells.toArray) ∧ Whole (w3.setRow w.heap.size m.cells.toArray) w.heap.size 45 m.cells ∧ MsgIn (w3.setRow w.heap.size m.cells.toArray) m ∧ MsgBtw w.heap.size (w3.setRow w.heap.size m.cells.toArray).heap.size m) := Lib.hid (by
    have hkf : Keeps (fun q => q = w.heap.size) w3 (w3.setRow w.heap.size m.cells.toArray) := (Keeps.refl _ _).setRow _ _ (.inr rfl)
    have hs := HS1.out
    have hs3 := hk3.size
    have hs4 := hkf.size
    exact ⟨(HK2.out.trans hk3 (fun _ _ e => e)).setRow _ _ (.inl (Nat.le_refl _)), HR3.out.row, ((HM2.out.same hk3).keep (HB2.out.mono (Nat.le_refl _) hs3) hkf (fun q e => by omega)), HB2.out.mono (by omega) (by omega)⟩)
  have HAL : Hid (m.cells.toArray.all (·.oneCell') = true) := Lib.hid m.cells_all
  clear hk2 hmi hmb hres hR hB hk3 hka hw3 HRD H1 HR1 HZ HR0
  go_wp2_with (first
    | (refine wpList_store_row (by rfl) 45 _ _ (by rfl) w2.heap.size m.cells.toArray (by rfl) (by rfl) 45 zeroM.cells.toArray HMA.out HSM.out HEX.out HAL.out ?_; rw [HW3.out])
    | (refine wpList_load_row (by rfl) 45 _ (by rfl) w2.heap.size (by rfl) 45 m.cells.toArray (0, 0) _ HM3.out Tryd.underlying45 rfl HSM.out ?_)
    | (refine wpList_store_row (by rfl) 45 _ _ (by rfl) w.heap.size m.cells.toArray (by rfl) (by rfl) 45 zeroM.cells.toArray HR3.out HSM.out HEX.out HAL.out ?_))
  refine bodyPost_ret (v := .tuple #[.agg m.cells.toArray, .bool true]) (results_row_tmp (p := 4) (u := 5) (ty := 45) rfl _ _ w.heap.size 45 _ (0, 0) _ (by rfl) HFIN.out.2.1 Tryd.underlying45 rfl HSM.out) rfl
    ⟨HFIN.out.1, m, HFIN.out.2.2.1, HFIN.out.2.2.2, .inl ⟨j, HJ.out, rfl, HMR.out, HEV.out, rfl⟩⟩
end Go.Proofs.YtafgiljgefeefaaDoor
namespace Go.Proofs.YtafgiljgefeefaaDoor
open Go.RowKit
set_option linter.unusedVariables false

theorem NetAt.step {w0 w w' : World} {N : Nat} {tA tB : Option Addr} {tc td : Nat} {bl bl' : List (Value × List UInt8)} {ms ms' : List Msg} {S : Nat → Prop} (h : NetAt w0 w N tA tc bl ms) (k : Keeps S w w') (hs : ∀ q, S q → q = N ∨ (.slice tA bl.length tc : Value).ownBlock = some q) (ho : Whole w' N 62 [.slice tB bl'.length td]) (hr : w'.ownsRow (N + 1) 33 1 (.slice tB bl'.length td) bl'.length (bl'.map (·.1)))
    (ht : ∀ x ∈ bl', TxtB (N + 1) w' x) (hb : bl'.map (·.2) = ms'.map Msg.bytes) (hg : ∀ m ∈ ms', m.Good) : NetAt w0 w' N tB td bl' ms' ∧ NetK w w' := by
  refine ⟨⟨ho, hr, ht, hb, hg, h.same.trans k (fun q hq e => ?_), h.new⟩, S, k, fun q e => ?_⟩
  · have := h.new
    rcases hs q e with e2 | e2
    · omega
    · have := (h.own.lt q e2).1; omega
  · rcases hs q e with rfl | e2
    · exact ⟨_, _, h.obj, .inl rfl⟩
    · obtain ⟨cur, hc⟩ := own_typ h.own e2
      exact ⟨cur, _, hc, .inr rfl⟩
/-- What Send does. -/
def SendPost (w0 w : World) (N : Nat) (ms : List Msg) (m : Msg) (e : Ending) (w' : World) : Prop :=
  NetK w w' ∧ ∃ tA tc bl ms' er, e = .returned (.int .i64 er) ∧ NetAt w0 w' N tA tc bl ms' ∧ ((m.Right ∧ ms.length < 4000 ∧ er = 0 ∧ ms' = ms ++ [m]) ∨ (¬ m.Right ∧ er = 1 ∧ ms' = ms) ∨ (m.Right ∧ 4000 ≤ ms.length ∧ er = 220 ∧ ms' = ms))

set_option maxRecDepth 100000 in
set_option maxHeartbeats 6400000 in
theorem netSend_any {w0 : World} {N : Nat} {tA : Option Addr} {tc : Nat} {bl : List (Value × List UInt8)} {ms : List Msg} (m : Msg) (w : World) (h : NetAt w0 w N tA tc bl ms) (hm : MsgIn w m) (hN : Nums w0) (hl : ms.length ≤ 4000) :
    Calls Tryd.prog 15 #[.pointer (some ⟨N, 0, none⟩), .agg m.cells.toArray] w (SendPost w0 w N ms m) := by
  obtain ⟨ib, hib, hb0, hb1, hb2⟩ := info_partsW Tryd.infoB8W
  have HZB := Lib.hid hb0
  obtain ⟨w1, hw1⟩ : ∃ w1, w.alloc (.cells m.cells.toArray 45) = w1 := ⟨_, rfl⟩
  have HK : Hid (Same w w1) := Lib.hid (by rw [← hw1]; exact (Keeps.refl _ _).alloc _)
  have HB : Hid (w1.heap[w.heap.size]? = some (.cells m.cells.toArray 45 (0, 0))) := Lib.hid (by rw [← hw1]; exact heap_alloc_new w _)
  have H1 := Lib.hid (h.keepSame HK.out)
  have HM1 : Hid (MsgIn w1 m) := Lib.hid (hm.same HK.out)
  have HSZ := Lib.hid (Tryd.sizeMsgOf m hm.hd)
  have HWR := Lib.hid (wireWrite_any m w1 HM1.out (hN.keep H1.out.same (fun e => e)))
  unfold WirePost at HWR
  have HL := Lib.hid hl
  have HML := Lib.hid h.len
  clear h hm hN hl hb0
  go_enter Tryd.func15, Tryd.ntmps15
  go_wp2_with (refine wpList_load_row (by rfl) 45 _ (by rfl) w.heap.size (by rfl) 45 m.cells.toArray (0, 0) _ HB.out Tryd.underlying45 rfl HSZ.out ?_)
  clear hw1
  ((with_reducible refine HWR.out.mono ?_); rintro e w2 ⟨hk2, hres⟩)
  have H2 := Lib.hid (H1.out.keepSame hk2)
  have HK2 : Hid (Same w w2) := Lib.hid (HK.out.trans hk2 (fun _ _ e => e))
  have HS12 := Lib.hid hk2.size
  rcases hres with ⟨hR, v, rfl, ho⟩ | ⟨hR, rfl⟩
  case inr =>
    have HR := Lib.hid hR
    clear hR hk2
    go_wp2
    go_ret
    exact ⟨NetK.of_same HK2.out, _, _, _, _, 1, rfl, H2.out, .inr (.inl ⟨HR.out, rfl, rfl⟩)⟩
  have HR := Lib.hid hR
  have HGD : Hid m.Good := Lib.hid (HM1.out.good hR)
  have hbl := (HM1.out.good hR).bytes_le
  obtain ⟨g7, c7, rfl⟩ : ∃ g7 c7, v = .slice (some ⟨g7, 0, none⟩) m.bytes.length c7 := by
    rcases ho.2 with ⟨_, h0⟩ | ⟨g, cp, cur, h, _⟩
    · omega
    · exact ⟨g, cp, h⟩
  have HO := Lib.hid ho
  obtain ⟨X, hX⟩ : ∃ X, m.bytes = X := ⟨_, rfl⟩
  rw [hX] at HO
  have HX := Lib.hid hX
  obtain ⟨L, hL⟩ : ∃ L, X.length = L := ⟨_, rfl⟩
  rw [hX, hL]
  rw [hL] at HO
  have HLX := Lib.hid hL
  have c0 := H2.out.obj.cell (i := 0) rfl
  obtain ⟨n, hn⟩ : ∃ n, bl.length = n := ⟨_, rfl⟩
  rw [hn] at c0
  have HNN := Lib.hid hn
  clear hR hk2 ho hbl hX hL hn
  by_cases hfull : 4000 ≤ ms.length
  · have hfn : (4000 : Int) ≤ (n : Int) := by have := HML.out; have := HNN.out; omega
    have HF := Lib.hid hfull
    clear hfull
    go_wp2
    go_ret
    exact ⟨NetK.of_same HK2.out, _, _, _, _, 220, rfl, H2.out, .inr (.inr ⟨HR.out, HF.out, rfl, rfl⟩)⟩
  have hfn : ¬ (4000 : Int) ≤ (n : Int) := by have := HML.out; have := HNN.out; omega
  have HF : Hid (ms.length < 4000) := Lib.hid (by omega)
  obtain ⟨wa, hwa⟩ : ∃ wa, w2.alloc (.cells #[.slice (some ⟨g7, 0, none⟩) L c7] 33) = wa := ⟨_, rfl⟩
  have hka : Same w2 wa := by rw [← hwa]; exact (Keeps.refl _ _).alloc _
  have hlit : wa.heap[w2.heap.size]? = some (.cells #[.slice (some ⟨g7, 0, none⟩) L c7] 33 (0, 0)) := by rw [← hwa]; exact heap_alloc_new w2 _
  have HA := Lib.hid (H2.out.keepSame hka)
  have howna : wa.ownsRow (N + 1) 33 1 (.slice tA n tc) n (bl.map (·.1)) := by rw [← HNN.out]; exact HA.out.own
  have hNl := HA.out.obj.lt
  obtain ⟨g, cp, w3, hrun, ho3, hg3, hat3, hlt3⟩ := run_append_lies (P := Tryd.prog) wa 43 43 (N + 1) 33 ib _ 1 24 Tryd.underlying43 hib HZB.out hb1 hb2 rfl (by omega) (.slice tA n tc) n (bl.map (·.1)) howna ⟨w2.heap.size, 0, none⟩ 1 1 [.slice (some ⟨g7, 0, none⟩) L c7] rfl (fun q u hu => by
    rw [Addr.add_mid, cell_of_row _ _ _ _ _ _ hlit]; simpa using hu) (by simp [Value.oneCell']) (by omega) (by have := HL.out; have := HML.out; have := HNN.out; unfold maxLen; omega) (by have := HL.out; have := HML.out; have := HNN.out; omega) (by omega) wa.heap.size rfl
  have HRUN := Lib.hid hrun
  have k3 : Keeps (fun q => q = N ∨ (.slice tA bl.length tc : Value).ownBlock = some q) wa w3 := (Keeps.refl _ _).grown hg3 (fun q e _ => .inr (by rw [HNN.out]; exact e))
  have HO3 : Hid (Whole w3 N 62 [.slice tA n tc]) := Lib.hid (by
    have := HA.out.obj
    rw [HNN.out] at this
    refine this.keep ((Keeps.refl (fun q => (.slice tA n tc : Value).ownBlock = some q) wa).grown hg3 (fun q e _ => e)) (fun e => ?_)
    have := (howna.lt N e).1
    omega)
  have c1 := HO3.out.cell (i := 0) rfl
  have g1 := HO3.out.free 0
  obtain ⟨w4, hw4⟩ : ∃ w4, w3.setCell ⟨N, 0, none⟩ (.slice (some ⟨g, 0, none⟩) (n + 1) cp) = w4 := ⟨_, rfl⟩
  have k4 : Keeps (fun q => q = N ∨ (.slice tA bl.length tc : Value).ownBlock = some q) wa w4 := by rw [← hw4]; exact k3.setCell _ _ (.inr (.inl rfl))
  have k34 : Keeps (fun q => q = N) w3 w4 := by rw [← hw4]; exact (Keeps.refl _ _).setCell _ _ (.inr rfl)
  have HEND : Hid (NetK w w4 ∧ ∃ tB td bl', NetAt w0 w4 N tB td bl' (ms ++ [m])) := Lib.hid (by
    have hnew : TxtB (N + 1) wa (.slice (some ⟨g7, 0, none⟩) L c7, X) := by
      have ho := HO.out
      have hts : TxtB (N + 1) w2 (.slice (some ⟨g7, 0, none⟩) L c7, X) := ⟨Reads.of_own ho HLX.out, fun a n' c' e => by
        have h1 := ho.lt a.block (congrArg Value.ownBlock e)
        have := HK.out.size
        have := H1.out.obj.lt
        exact ⟨by omega, h1.2, own_typ ho (congrArg Value.ownBlock e)⟩⟩
      exact hts.keep hka (fun q e => e.elim)
    have hst := HA.out.step (bl' := bl ++ [(.slice (some ⟨g7, 0, none⟩) L c7, X)]) (ms' := ms ++ [m]) (tB := some ⟨g, 0, none⟩) (td := cp) k4 (fun q e => e) (by
      rw [List.length_append, HNN.out, ← hw4]
      have := HO3.out.set 0 (.slice (some ⟨g, 0, none⟩) (n + 1) cp)
      simpa using this) (by
      rw [List.length_append, HNN.out, List.map_append]
      exact own_keeps k34 ho3 (fun q e e2 => by have := (ho3.lt q e).1; omega)) (fun x hx => by
      have h0 : TxtB (N + 1) wa x := by
        rcases List.mem_append.1 hx with hx | hx
        · exact HA.out.txt x hx
        · rw [List.mem_singleton] at hx; subst hx; exact hnew
      refine h0.keep k4 (fun q e => ?_)
      rcases e with rfl | e
      · exact .inl (by omega)
      · obtain ⟨cur, hcur⟩ := own_typ HA.out.own e
        exact .inr (.inr ⟨cur, _, hcur, by decide⟩)) (by
      rw [List.map_append, List.map_append, HA.out.byt, ← HX.out]; rfl) (fun x hx => by
      rcases List.mem_append.1 hx with hx | hx
      · exact HA.out.good x hx
      · rw [List.mem_singleton] at hx; subst hx; exact HGD.out)
    refine ⟨?_, _, _, _, hst.1⟩
    obtain ⟨S, k, hs⟩ := hst.2
    have kk : Same w wa := HK2.out.trans hka (fun _ _ e => e)
    refine ⟨fun q => q < w.heap.size ∧ S q, (kk.any).trans k (fun q hq e => ⟨hq, e⟩), fun q ⟨hq, e⟩ => ?_⟩
    obtain ⟨cur, t, h1, h2⟩ := hs q e
    refine ⟨cur, t, ?_, h2⟩
    rw [← kk.block q hq (fun e => e)]; exact h1)
  clear hka hlit howna hrun ho3 hg3 hat3 hlt3 k3 k4 k34 hib hb1 hb2 hfull
  go_wp2_with ((with_reducible refine wpList_append_run ?_ (.tmp 25) (.tmp 27) 43 ?_ (.slice tA n tc) (.slice (some ⟨w2.heap.size, 0, none⟩) 1 1) _ w3 ?_ ?_ HRUN.out ?_); rfl; rfl; rfl; rfl)
  go_ret
  obtain ⟨hk, tB, td, bl', hn⟩ := HEND.out
  exact ⟨hk, tB, td, bl', ms ++ [m], 0, rfl, hn, .inl ⟨HR.out, HF.out, rfl, rfl⟩⟩

/-- What Drop does. -/
def DropPost (w0 w : World) (N : Nat) (v : Value) (ms : List Msg) (k : Int) (e : Ending) (w' : World) : Prop :=
  NetK w w' ∧ Keeps (fun q => q = N ∨ v.ownBlock = some q) w w' ∧ ∃ tA tc bl ms' b, e = .returned (.bool b) ∧ NetAt w0 w' N tA tc bl ms' ∧ ((b = true ∧ ∃ j : Nat, k = (j : Int) ∧ j < ms.length ∧ ms' = ms.eraseIdx j) ∨ (b = false ∧ ¬ (0 ≤ k ∧ k < (ms.length : Int)) ∧ ms' = ms))

set_option maxRecDepth 100000 in
set_option maxHeartbeats 6400000 in
theorem netDrop_any {w0 : World} {N : Nat} {tA : Option Addr} {tc : Nat} {bl : List (Value × List UInt8)} {ms : List Msg} (k : Int) (w : World) (h : NetAt w0 w N tA tc bl ms) (hl : ms.length ≤ 4000) :
    Calls Tryd.prog 12 #[.pointer (some ⟨N, 0, none⟩), .int .i64 k] w (DropPost w0 w N (.slice tA bl.length tc) ms k) := by
  have H := Lib.hid h
  have HHAS := Lib.hid (netHas_any k w h)
  have HL := Lib.hid hl
  clear h hl
  by_cases hk : 0 ≤ k ∧ k < (ms.length : Int)
  case neg =>
    rw [decide_eq_false hk] at HHAS
    have HNK := Lib.hid hk
    clear hk
    go_enter Tryd.func12, Tryd.ntmps12
    go_wp2_with fail
    ((with_reducible refine HHAS.out.mono ?_); rintro e w1 ⟨rfl, hk1⟩)
    have HK1 := Lib.hid hk1
    clear hk1
    go_wp2
    go_ret
    exact ⟨NetK.of_same HK1.out, HK1.out.any, _, _, _, _, false, rfl, H.out.keepSame HK1.out, .inr ⟨rfl, HNK.out, rfl⟩⟩
  obtain ⟨j, rfl⟩ : ∃ j : Nat, k = (j : Int) := ⟨k.toNat, by omega⟩
  have hj : j < ms.length := by omega
  rw [decide_eq_true hk] at HHAS
  have HJ := Lib.hid hj
  have hjl : (j : Int) < 4000 := by have := HL.out; omega
  have hj0 : (0 : Int) ≤ (j : Int) := by omega
  clear hk hj
  go_enter Tryd.func12, Tryd.ntmps12
  go_wp2_with fail
  ((with_reducible refine HHAS.out.mono ?_); rintro e w1 ⟨rfl, hk1⟩)
  have H1 := Lib.hid (H.out.keepSame hk1)
  have HK1 := Lib.hid hk1
  have hjb : j < bl.length := by have := HJ.out; rw [H1.out.len]; exact this
  obtain ⟨vs, hvs⟩ : ∃ vs, bl.map (·.1) = vs := ⟨_, rfl⟩
  have hvl : vs.length = bl.length := by rw [← hvs, List.length_map]
  have hown := H1.out.own
  rw [hvs, ← hvl] at hown
  have c0 := H1.out.obj.cell (i := 0) rfl
  rw [← hvl] at c0
  obtain ⟨g, cap, tg⟩ : ∃ g cap, (.slice tA vs.length tc : Value) = .slice (some ⟨g, 0, none⟩) vs.length cap := by
    rcases hown.2 with ⟨e, h0⟩ | ⟨g, cap, cur, e, _⟩
    · omega
    · exact ⟨g, cap, e⟩
  simp only [Value.slice.injEq, true_and] at tg
  obtain ⟨rfl, rfl⟩ := tg
  have HOW := Lib.hid hown
  have HDL := Lib.hid (deleteB_any (N + 1) g tc vs j w1 (fun v hv => by
    rw [← hvs] at hv
    obtain ⟨x, hx, rfl⟩ := List.mem_map.1 hv
    obtain ⟨ao, c, e, _⟩ := (H1.out.txt x hx).1
    exact ⟨_, _, _, e⟩) hown (by omega))
  have hcast : ((j + 1 : Nat) : Int) = (j : Int) + 1 := by omega
  rw [hcast] at HDL
  have HVS := Lib.hid hvs
  have HVL := Lib.hid hvl
  have HJB := Lib.hid hjb
  obtain ⟨n, hn⟩ : ∃ n, vs.length = n := ⟨_, rfl⟩
  rw [hn] at c0 HDL HOW
  have HNN := Lib.hid hn
  clear hk1 hown hvs hvl hjb hn hcast
  go_wp2_with fail
  ((with_reducible refine HDL.out.mono ?_); rintro e w2 ⟨rfl, ho2, hk2⟩)
  have HO2 := Lib.hid ho2
  have HN2 : Hid (Whole w2 N 62 [.slice (some ⟨g, 0, none⟩) n tc]) := Lib.hid (by
    have h1 := H1.out.obj
    rw [← HVL.out, HNN.out] at h1
    exact h1.keep hk2 (fun e => by have := (HOW.out.lt g rfl).1; omega))
  have c1 := HN2.out.cell (i := 0) rfl
  have g1 := HN2.out.free 0
  obtain ⟨w3, hw3⟩ : ∃ w3, w2.setCell ⟨N, 0, none⟩ (.slice (some ⟨g, 0, none⟩) (n - 1) tc) = w3 := ⟨_, rfl⟩
  have k3 : Keeps (fun q => q = N ∨ (.slice (some ⟨g, 0, none⟩) bl.length tc : Value).ownBlock = some q) w1 w3 := by
    rw [← hw3]; exact (hk2.mono (fun q _ e => .inr (by rw [e]; rfl))).setCell _ _ (.inr (.inl rfl))
  have k23 : Keeps (fun q => q = N) w2 w3 := by rw [← hw3]; exact (Keeps.refl _ _).setCell _ _ (.inr rfl)
  have hne : (bl.eraseIdx j).length = n - 1 := by rw [List.length_eraseIdx, if_pos HJB.out, ← HVL.out, HNN.out]
  have hst := H1.out.step (bl' := bl.eraseIdx j) (ms' := ms.eraseIdx j) (tB := some ⟨g, 0, none⟩) (td := tc) k3 (fun q e => e) (by
    rw [hne, ← hw3]
    have := HN2.out.set 0 (.slice (some ⟨g, 0, none⟩) (n - 1) tc)
    simpa using this) (by
    have e1 : (bl.eraseIdx j).map (·.1) = vs.eraseIdx j := by rw [← HVS.out, List.eraseIdx_eq_take_drop_succ, List.eraseIdx_eq_take_drop_succ, List.map_append, List.map_take, List.map_drop]
    rw [hne, e1]
    exact own_keeps k23 HO2.out (fun q e e2 => by have := (HO2.out.lt q e).1; omega)) (fun x hx => by
    refine (H1.out.txt x (List.mem_of_mem_eraseIdx hx)).keep k3 (fun q e => ?_)
    rcases e with rfl | e
    · exact .inl (by omega)
    · obtain ⟨cur, hcur⟩ := own_typ H1.out.own e
      exact .inr (.inr ⟨cur, _, hcur, by decide⟩)) (by
    rw [List.eraseIdx_eq_take_drop_succ, List.eraseIdx_eq_take_drop_succ, List.map_append, List.map_append, List.map_take, List.map_take, List.map_drop, List.map_drop, H1.out.byt]) (fun x hx => H1.out.good x (List.mem_of_mem_eraseIdx hx))
  have HST := Lib.hid hst
  have HKD : Hid (Keeps (fun q => q = N ∨ (.slice (some ⟨g, 0, none⟩) bl.length tc : Value).ownBlock = some q) w w3) := Lib.hid (HK1.out.any.trans k3 (fun q hq e => e))
  clear hk2 ho2 hst k3 k23 hne HDL
  go_wp2
  go_ret
  refine ⟨?_, HKD.out, _, _, _, _, true, rfl, HST.out.1, .inl ⟨rfl, j, rfl, HJ.out, rfl⟩⟩
  obtain ⟨S, k, hs⟩ := HST.out.2
  refine ⟨fun q => q < w.heap.size ∧ S q, (HK1.out.any).trans k (fun q hq e => ⟨hq, e⟩), fun q ⟨hq, e⟩ => ?_⟩
  obtain ⟨cur, t, h1, h2⟩ := hs q e
  refine ⟨cur, t, ?_, h2⟩
  rw [← HK1.out.block q hq (fun e => e)]; exact h1

/-- The row that Copy appends to: ahead, with the text loaded, with the literal, behind. -/
def CpE (N g n tc : Nat) (vs : List Value) (xo : Option Addr) (L xc j : Nat) : Nat → Value → World → Prop
  | 0, _, w => w.ownsRow (N + 1) 33 1 (.slice (some ⟨g, 0, none⟩) n tc) n vs ∧ w.cell? ⟨g, j, none⟩ = some (.slice xo L xc)
  | 1, v, w => (w.ownsRow (N + 1) 33 1 (.slice (some ⟨g, 0, none⟩) n tc) n vs ∧ w.cell? ⟨g, j, none⟩ = some (.slice xo L xc)) ∧ v = .slice xo L xc
  | 2, v, w => (w.ownsRow (N + 1) 33 1 (.slice (some ⟨g, 0, none⟩) n tc) n vs ∧ w.cell? ⟨g, j, none⟩ = some (.slice xo L xc)) ∧ ∃ G, v = .slice (some ⟨G, 0, none⟩) 1 1 ∧ N + 1 ≤ G ∧ w.heap[G]? = some (.cells #[.slice xo L xc] 33 (0, 0))
  | _ + 3, v, w => ∃ g' cp, v = .slice (some ⟨g', 0, none⟩) (n + 1) cp ∧ w.ownsRow (N + 1) 33 1 (.slice (some ⟨g', 0, none⟩) (n + 1) cp) (n + 1) (vs ++ [.slice xo L xc])
theorem cell_sameN {w w' : World} {p : Addr} {v : Value} (h : w.cell? p = some v) (k : Same w w') : w'.cell? p = some v := by
  rw [World.cell?_of_block (w := w) (k.block _ (World.block_lt_of_cell? w _ h) (fun e => e))]; exact h
theorem CpE.same {N g n tc : Nat} {vs : List Value} {xo : Option Addr} {L xc j : Nat} (c : Nat) (v : Value) (w w' : World) (h : CpE N g n tc vs xo L xc j c v w) (k : Same w w') : CpE N g n tc vs xo L xc j c v w' := by
  match c, h with
  | 0, h => exact ⟨own_keeps k h.1 (fun q e e2 => e2), cell_sameN h.2 k⟩
  | 1, h => exact ⟨⟨own_keeps k h.1.1 (fun q e e2 => e2), cell_sameN h.1.2 k⟩, h.2⟩
  | 2, h =>
    obtain ⟨h1, G, e, hG, hl⟩ := h
    exact ⟨⟨own_keeps k h1.1 (fun q e e2 => e2), cell_sameN h1.2 k⟩, G, e, hG, k.obj hl (fun e => e)⟩
  | _ + 3, h =>
    obtain ⟨g', cp, e, ho⟩ := h
    exact ⟨g', cp, e, own_keeps k ho (fun q e e2 => e2)⟩
/-- What Copy does. -/
def CopyPost (w0 w : World) (N : Nat) (ms : List Msg) (k : Int) (e : Ending) (w' : World) : Prop :=
  NetK w w' ∧ ∃ tA tc bl ms' b, e = .returned (.bool b) ∧ NetAt w0 w' N tA tc bl ms' ∧ ((b = true ∧ ms.length < 4000 ∧ ∃ (j : Nat) (hj : j < ms.length), k = (j : Int) ∧ ms' = ms ++ [ms[j]]) ∨ (b = false ∧ ¬ ((0 ≤ k ∧ k < (ms.length : Int)) ∧ ms.length < 4000) ∧ ms' = ms))

set_option maxRecDepth 100000 in
set_option maxHeartbeats 6400000 in
theorem netCopy_any {w0 : World} {N : Nat} {tA : Option Addr} {tc : Nat} {bl : List (Value × List UInt8)} {ms : List Msg} (k : Int) (w : World) (h : NetAt w0 w N tA tc bl ms) (hl : ms.length ≤ 4000) :
    Calls Tryd.prog 13 #[.pointer (some ⟨N, 0, none⟩), .int .i64 k] w (CopyPost w0 w N ms k) := by
  have H := Lib.hid h
  have HHAS := Lib.hid (netHas_any k w h)
  have HL := Lib.hid hl
  have HML := Lib.hid h.len
  obtain ⟨ib, hib, hb0, hb1, hb2⟩ := info_partsW Tryd.infoB8W
  have HZB := Lib.hid hb0
  clear h hl hb0
  by_cases hk : 0 ≤ k ∧ k < (ms.length : Int)
  case neg =>
    rw [decide_eq_false hk] at HHAS
    have HNK := Lib.hid hk
    clear hk hib hb1 hb2
    go_enter Tryd.func13, Tryd.ntmps13
    go_wp2_with fail
    ((with_reducible refine HHAS.out.mono ?_); rintro e w1 ⟨rfl, hk1⟩)
    have HK1 := Lib.hid hk1
    clear hk1
    go_wp2
    go_ret
    exact ⟨NetK.of_same HK1.out, _, _, _, _, false, rfl, H.out.keepSame HK1.out, .inr ⟨rfl, fun e => HNK.out e.1, rfl⟩⟩
  obtain ⟨j, rfl⟩ : ∃ j : Nat, k = (j : Int) := ⟨k.toNat, by omega⟩
  have hj : j < ms.length := by omega
  rw [decide_eq_true hk] at HHAS
  have HJ := Lib.hid hj
  have hj0 : (0 : Int) ≤ (j : Int) := by omega
  clear hk hj
  go_enter Tryd.func13, Tryd.ntmps13
  go_wp2_with fail
  ((with_reducible refine HHAS.out.mono ?_); rintro e w1 ⟨rfl, hk1⟩)
  have H1 := Lib.hid (H.out.keepSame hk1)
  have HK1 := Lib.hid hk1
  have c0 := H1.out.obj.cell (i := 0) rfl
  obtain ⟨n, hn⟩ : ∃ n, bl.length = n := ⟨_, rfl⟩
  rw [hn] at c0
  have HNN := Lib.hid hn
  clear hk1 hn
  by_cases hfull : 4000 ≤ ms.length
  · have hfn : (4000 : Int) ≤ (n : Int) := by have := HML.out; have := HNN.out; omega
    have HF := Lib.hid hfull
    clear hfull hib hb1 hb2
    go_wp2
    go_ret
    exact ⟨NetK.of_same HK1.out, _, _, _, _, false, rfl, H1.out, .inr ⟨rfl, fun e => by have := HF.out; omega, rfl⟩⟩
  have hfn : ¬ (4000 : Int) ≤ (n : Int) := by have := HML.out; have := HNN.out; omega
  have HF : Hid (ms.length < 4000) := Lib.hid (by omega)
  have HN4 : Hid (n < 4000 ∧ j < n) := Lib.hid (by have := HML.out; have := HNN.out; have := HJ.out; omega)
  clear hfull
  go_wp2_with fail
  clear c0
  obtain ⟨vs, hvs⟩ : ∃ vs, bl.map (·.1) = vs := ⟨_, rfl⟩
  have hjb : j < bl.length := by have := HN4.out; have := HNN.out; omega
  obtain ⟨x, hxx⟩ : ∃ x, bl[j] = x := ⟨_, rfl⟩
  have hmem : x ∈ bl := by rw [← hxx]; exact List.getElem_mem hjb
  have htx := H1.out.txt x hmem
  obtain ⟨xo, xc, hx1, _⟩ := id htx.1
  obtain ⟨L, hL⟩ : ∃ L, x.2.length = L := ⟨_, rfl⟩
  rw [hL] at hx1
  have hown := H1.out.own
  rw [hvs, HNN.out] at hown
  obtain ⟨g, cap, tg⟩ : ∃ g cap, (.slice tA n tc : Value) = .slice (some ⟨g, 0, none⟩) n cap := by
    rcases hown.2 with ⟨e, h0⟩ | ⟨g, cap, cur, e, _⟩
    · have := HN4.out; omega
    · exact ⟨g, cap, e⟩
  simp only [Value.slice.injEq, true_and] at tg
  obtain ⟨rfl, rfl⟩ := tg
  have hcell : w1.cell? ⟨g, j, none⟩ = some (.slice xo L xc) := by
    have := hown.cells rfl j x.1 (by rw [← hvs, List.getElem?_map, List.getElem?_eq_getElem hjb, hxx]; rfl)
    rw [add_at, Nat.zero_add] at this
    rw [this, hx1]
  have HR0 : Hid (CpE N g n tc vs xo L xc j 0 undef w1) := Lib.hid ⟨hown, hcell⟩
  have hgl := hown.lt g rfl
  have hNl := H1.out.obj.lt
  have HNL := Lib.hid hNl
  have HCN : Hid (∀ w', Keeps (fun q => q = g) w1 w' → w'.cell? ⟨N, 0, none⟩ = some (.slice (some ⟨g, 0, none⟩) n tc)) := Lib.hid (fun w' k => by
    have h1 := H1.out.obj
    rw [HNN.out] at h1
    exact (h1.keep k (by omega)).cell (i := 0) rfl)
  have hjn : (j : Int) < (n : Int) := by have := HN4.out; omega
  have HVS := Lib.hid hvs
  have HX1 := Lib.hid hx1
  have HTX := Lib.hid htx
  have HJB : Hid (∃ h : j < bl.length, bl[j] = x) := Lib.hid ⟨hjb, hxx⟩
  clear hvs hjb hxx hmem htx hx1 hL hown hcell
  refine wp_region_hand [[], [], [1], [2], [3], [], [5], [6], [7], [], [8, 9], [10], [11], [4, 12], [0, 0, 1, 2, 3, 4, 5, 6, 7, 8, 9, 10, 11, 12, 13], [14, 0, 1, 2, 3, 4, 5, 6, 7, 8, 9, 10, 11, 12, 13], [15, 13, 13, 0, 1, 2, 3, 4, 5, 6, 7, 8, 9, 10, 11, 12, 13]]
    [some 17, some 18, some 19, some 20, some 21, some 22, some 23, some 24, some 25, some 26, some 27, some 28, some 29, some 30, some 31, some 32, none]
    [.is (.pointer (some ⟨N, 0, none⟩)), .is (.pointer (some ⟨N, 0, none⟩)), .is (.pointer (some ⟨N, 0, none⟩)), .is (.pointer (some ⟨N, 0, none⟩)), .is (.slice (some ⟨g, 0, none⟩) n tc), .is (.pointer (some ⟨N, 0, none⟩)), .is (.pointer (some ⟨N, 0, none⟩)), .is (.pointer (some ⟨N, 0, none⟩)), .is (.slice (some ⟨g, 0, none⟩) n tc), .is (.int .i64 (j : Int)), .is (.pointer (some ⟨g, j, none⟩)), .is (.slice xo L xc), .lit 33 #[.slice xo L xc], .any, .any, .any, .any]
    (fun q => q = g) [11, 12, 13] (CpE N g n tc vs xo L xc j) 3 _ _ 33 14 17 (by kernel_rfl) (by rfl) (by rfl) (by omega) (by kernel_rfl) (by kernel_rfl) (by decide) (by decide) (fun k e => by omega) HR0.out CpE.same ?_ ?_
  · refine ⟨?_, ?_, ?_, ?_, ?_, ?_, ?_, ?_, ?_, ?_, ?_, ?_, ?_, ?_, trivial⟩
    · intro a w' K hs' hdep hfr hK
      have f0 := hfr 0 (by decide)
      exact plan_do (by rfl) (plan_yield (i := 0) (V := fun _ _ v => v = (.pointer (some ⟨N, 0, none⟩) : Value)) (.pointer (some ⟨N, 0, none⟩)) (by go_simp) rfl hK)
    · intro a w' K hs' hdep hfr hK
      have f0 := hfr 0 (by decide)
      exact plan_do (by rfl) (plan_yield (i := 1) (V := fun _ _ v => v = (.pointer (some ⟨N, 0, none⟩) : Value)) (.pointer (some ⟨N, 0, none⟩)) (by go_simp) rfl hK)
    · intro a w' K hs' hdep hfr hK
      have e18 : a.tmps[18]?.getD undef = (.pointer (some ⟨N, 0, none⟩)) := hdep 1 (by decide) 18 rfl
      exact plan_do (by rfl) (plan_yield (i := 2) (V := fun _ _ v => v = (.pointer (some ⟨N, 0, none⟩) : Value)) (.pointer (some ⟨N, 0, none⟩)) (by go_simp) rfl hK)
    · intro a w' K hs' hdep hfr hK
      have e19 : a.tmps[19]?.getD undef = (.pointer (some ⟨N, 0, none⟩)) := hdep 2 (by decide) 19 rfl
      exact plan_do (by rfl) (plan_yield (i := 3) (V := fun _ _ v => v = (.pointer (some ⟨N, 0, none⟩) : Value)) (.pointer (some ⟨N, 0, none⟩)) (by go_simp) rfl hK)
    · intro a w' K hs' hdep hfr hK
      have e20 : a.tmps[20]?.getD undef = (.pointer (some ⟨N, 0, none⟩)) := hdep 3 (by decide) 20 rfl
      have c0 := HCN.out w' hs'
      exact plan_do (by rfl) (plan_yield (i := 4) (V := fun _ _ v => v = (.slice (some ⟨g, 0, none⟩) n tc : Value)) (.slice (some ⟨g, 0, none⟩) n tc) (by go_simp) rfl hK)
    · intro a w' K hs' hdep hfr hK
      have f0 := hfr 0 (by decide)
      exact plan_do (by rfl) (plan_yield (i := 5) (V := fun _ _ v => v = (.pointer (some ⟨N, 0, none⟩) : Value)) (.pointer (some ⟨N, 0, none⟩)) (by go_simp) rfl hK)
    · intro a w' K hs' hdep hfr hK
      have e22 : a.tmps[22]?.getD undef = (.pointer (some ⟨N, 0, none⟩)) := hdep 5 (by decide) 22 rfl
      exact plan_do (by rfl) (plan_yield (i := 6) (V := fun _ _ v => v = (.pointer (some ⟨N, 0, none⟩) : Value)) (.pointer (some ⟨N, 0, none⟩)) (by go_simp) rfl hK)
    · intro a w' K hs' hdep hfr hK
      have e23 : a.tmps[23]?.getD undef = (.pointer (some ⟨N, 0, none⟩)) := hdep 6 (by decide) 23 rfl
      exact plan_do (by rfl) (plan_yield (i := 7) (V := fun _ _ v => v = (.pointer (some ⟨N, 0, none⟩) : Value)) (.pointer (some ⟨N, 0, none⟩)) (by go_simp) rfl hK)
    · intro a w' K hs' hdep hfr hK
      have e24 : a.tmps[24]?.getD undef = (.pointer (some ⟨N, 0, none⟩)) := hdep 7 (by decide) 24 rfl
      have c0 := HCN.out w' hs'
      exact plan_do (by rfl) (plan_yield (i := 8) (V := fun _ _ v => v = (.slice (some ⟨g, 0, none⟩) n tc : Value)) (.slice (some ⟨g, 0, none⟩) n tc) (by go_simp) rfl hK)
    · intro a w' K hs' hdep hfr hK
      have f1 := hfr 1 (by decide)
      exact plan_do (by rfl) (plan_yield (i := 9) (V := fun _ _ v => v = (.int .i64 (j : Int) : Value)) (.int .i64 (j : Int)) (by go_simp) rfl hK)
    · intro a w' K hs' hdep hfr hK
      have e25 : a.tmps[25]?.getD undef = (.slice (some ⟨g, 0, none⟩) n tc) := hdep 8 (by decide) 25 rfl
      have e26 : a.tmps[26]?.getD undef = (.int .i64 (j : Int)) := hdep 9 (by decide) 26 rfl
      exact plan_do (by rfl) (plan_yield (i := 10) (V := fun _ _ v => v = (.pointer (some ⟨g, j, none⟩) : Value)) (.pointer (some ⟨g, j, none⟩)) (by go_simp) rfl hK)
    · intro a w' K hs' hdep hfr ev hE hev hK
      have e27 : a.tmps[27]?.getD undef = (.pointer (some ⟨g, j, none⟩)) := hdep 10 (by decide) 27 rfl
      have cr := (hE).2
      clear hev
      exact plan_do (by rfl) (plan_go (.slice xo L xc) w' (by go_simp) (hK _ _ (Keeps.refl _ _) ⟨hE, rfl⟩ rfl))
    · intro a w' K hs' hdep hfr ev hE hev hK
      have e28 : a.tmps[28]?.getD undef = (.slice xo L xc) := hdep 11 (by decide) 28 rfl
      clear hev
      exact plan_do (by rfl) (plan_go (.slice (some ⟨w'.heap.size, 0, none⟩) 1 1) (w'.alloc (.cells #[.slice xo L xc] 33)) (by go_simp) (hK _ _ ((Keeps.refl _ _).alloc _) ⟨⟨own_keeps ((Keeps.refl (fun _ => False) _).alloc _) hE.1.1 (fun q e e2 => e2), cell_sameN hE.1.2 ((Keeps.refl _ _).alloc _)⟩, w'.heap.size, rfl, (by have := hs'.size; have := HNL.out; omega), heap_alloc_new w' _⟩ ⟨w'.heap.size, rfl, hs'.size, heap_alloc_new w' _⟩))
    · intro a w' K hs' hdep hfr ev hE hev hK
      have e21 : a.tmps[21]?.getD undef = (.slice (some ⟨g, 0, none⟩) n tc) := hdep 4 (by decide) 21 rfl
      obtain ⟨hE1, GL, e29, hGL, hlit⟩ := hE
      have e29' := hev 1 29 rfl rfl
      obtain ⟨g', cp, w'', hrun, ho3, hg3, hat3, hlt3⟩ := run_append_lies (P := Tryd.prog) w' 43 43 (N + 1) 33 ib _ 1 24 Tryd.underlying43 hib HZB.out hb1 hb2 rfl (by omega) (.slice (some ⟨g, 0, none⟩) n tc) n vs hE1.1 ⟨GL, 0, none⟩ 1 1 [.slice xo L xc] rfl (fun q u hu => by
        rw [Addr.add_mid, cell_of_row _ _ _ _ _ _ hlit]; simpa using hu) (by simp [Value.oneCell']) (by omega) (by have := HN4.out; unfold maxLen; omega) (by have := HN4.out; omega) (by have := hs'.size; have := HNL.out; omega) w'.heap.size rfl
      rw [e29] at e29'
      refine step_append_run (by rfl) (.tmp 21) (.tmp 29) 43 (by rfl) (.slice (some ⟨g, 0, none⟩) n tc) (.slice (some ⟨GL, 0, none⟩) 1 1) _ w'' ((eval_tmp _ _).trans e21) ((eval_tmp _ _).trans e29') hrun ?_
      exact hK _ _ ((Keeps.refl _ _).grown hg3 (fun k e _ => by simp only [Value.ownBlock, Option.some.injEq] at e; exact e.symm)) ⟨g', cp, rfl, ho3⟩ trivial
  intro a wz hkz hdef hsz hv hfr ev hEz hev
  have e17 : a.tmps[17]?.getD undef = (.pointer (some ⟨N, 0, none⟩)) := hv 0 17 (by omega) rfl
  have e30 := hev 2 30 rfl rfl
  have he := act_eq a _ [some 17, some 18, some 19, some 20, some 21, some 22, some 23, some 24, some 25, some 26, some 27, some 28, some 29, some 30] 33 rfl hsz hdef hfr (fun d => a.tmps[d]?.getD undef) (fun _ _ => rfl)
  obtain ⟨v18, h18⟩ : ∃ v, a.tmps[18]?.getD undef = v := ⟨_, rfl⟩
  obtain ⟨v19, h19⟩ : ∃ v, a.tmps[19]?.getD undef = v := ⟨_, rfl⟩
  obtain ⟨v20, h20⟩ : ∃ v, a.tmps[20]?.getD undef = v := ⟨_, rfl⟩
  obtain ⟨v21, h21⟩ : ∃ v, a.tmps[21]?.getD undef = v := ⟨_, rfl⟩
  obtain ⟨v22, h22⟩ : ∃ v, a.tmps[22]?.getD undef = v := ⟨_, rfl⟩
  obtain ⟨v23, h23⟩ : ∃ v, a.tmps[23]?.getD undef = v := ⟨_, rfl⟩
  obtain ⟨v24, h24⟩ : ∃ v, a.tmps[24]?.getD undef = v := ⟨_, rfl⟩
  obtain ⟨v25, h25⟩ : ∃ v, a.tmps[25]?.getD undef = v := ⟨_, rfl⟩
  obtain ⟨v26, h26⟩ : ∃ v, a.tmps[26]?.getD undef = v := ⟨_, rfl⟩
  obtain ⟨v27, h27⟩ : ∃ v, a.tmps[27]?.getD undef = v := ⟨_, rfl⟩
  obtain ⟨v28, h28⟩ : ∃ v, a.tmps[28]?.getD undef = v := ⟨_, rfl⟩
  obtain ⟨v29, h29⟩ : ∃ v, a.tmps[29]?.getD undef = v := ⟨_, rfl⟩
  simp only [putAll, e17, e30, h18, h19, h20, h21, h22, h23, h24, h25, h26, h27, h28, h29, List.setIfInBounds_toArray, List.set_cons_zero, List.set_cons_succ] at he
  clear e17 e30 h18 h19 h20 h21 h22 h23 h24 h25 h26 h27 h28 h29 hdef hsz hv hfr hev
  subst he

  obtain ⟨g', cp, hev30, ho9⟩ := hEz
  rw [hev30]
  have HO9 := Lib.hid ho9
  have HN9 : Hid (Whole wz N 62 [.slice (some ⟨g, 0, none⟩) n tc]) := Lib.hid (by
    have h1 := H1.out.obj
    rw [HNN.out] at h1
    exact h1.keep hkz (by omega))
  have c1 := HN9.out.cell (i := 0) rfl
  have g1 := HN9.out.free 0
  obtain ⟨w3, hw3⟩ : ∃ w3, wz.setCell ⟨N, 0, none⟩ (.slice (some ⟨g', 0, none⟩) (n + 1) cp) = w3 := ⟨_, rfl⟩
  have k3 : Keeps (fun q => q = N ∨ (.slice (some ⟨g, 0, none⟩) bl.length tc : Value).ownBlock = some q) w1 w3 := by
    rw [← hw3]; exact (hkz.mono (fun q _ e => .inr (by rw [e]; rfl))).setCell _ _ (.inr (.inl rfl))
  have k93 : Keeps (fun q => q = N) wz w3 := by rw [← hw3]; exact (Keeps.refl _ _).setCell _ _ (.inr rfl)
  obtain ⟨hjb, hxx⟩ := HJB.out
  have hjm : j < ms.length := HJ.out
  have hst := H1.out.step (bl' := bl ++ [x]) (ms' := ms ++ [ms[j]]) (tB := some ⟨g', 0, none⟩) (td := cp) k3 (fun q e => e) (by
    rw [List.length_append, HNN.out, ← hw3]
    have := HN9.out.set 0 (.slice (some ⟨g', 0, none⟩) (n + 1) cp)
    simpa using this) (by
    rw [List.length_append, HNN.out, List.map_append, HVS.out]
    have h1 := own_keeps k93 HO9.out (fun q e e2 => by have := (HO9.out.lt q e).1; omega)
    rw [← HX1.out] at h1
    exact h1) (fun y hy => by
    have h0 : TxtB (N + 1) w1 y := by
      rcases List.mem_append.1 hy with hy | hy
      · exact H1.out.txt y hy
      · rw [List.mem_singleton] at hy; subst hy; exact HTX.out
    refine h0.keep k3 (fun q e => ?_)
    rcases e with rfl | e
    · exact .inl (by omega)
    · obtain ⟨cur, hcur⟩ := own_typ H1.out.own e
      exact .inr (.inr ⟨cur, _, hcur, by decide⟩)) (by
    have h1 : (bl.map (·.2))[j]? = (ms.map Msg.bytes)[j]? := by rw [H1.out.byt]
    rw [List.getElem?_map, List.getElem?_map, List.getElem?_eq_getElem hjb, List.getElem?_eq_getElem hjm, hxx] at h1
    rw [List.map_append, List.map_append, H1.out.byt]
    simpa using h1) (fun y hy => by
    rcases List.mem_append.1 hy with hy | hy
    · exact H1.out.good y hy
    · rw [List.mem_singleton] at hy; subst hy; exact H1.out.good _ (List.getElem_mem hjm))
  have HST := Lib.hid hst
  clear hkz ho9 hst k3 k93 hjb hxx hib hb1 hb2 hgl hev30
  go_wp2
  go_ret
  refine ⟨?_, _, _, _, _, true, rfl, HST.out.1, .inl ⟨rfl, HF.out, j, HJ.out, rfl, rfl⟩⟩
  obtain ⟨S, k, hs⟩ := HST.out.2
  refine ⟨fun q => q < w.heap.size ∧ S q, (HK1.out.any).trans k (fun q hq e => ⟨hq, e⟩), fun q ⟨hq, e⟩ => ?_⟩
  obtain ⟨cur, t, h1, h2⟩ := hs q e
  refine ⟨cur, t, ?_, h2⟩
  rw [← HK1.out.block q hq (fun e => e)]; exact h1

end Go.Proofs.YtafgiljgefeefaaDoor
