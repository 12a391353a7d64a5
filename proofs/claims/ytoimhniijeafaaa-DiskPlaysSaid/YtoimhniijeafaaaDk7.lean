/- How (*disk.Disk).backwards goes through the open writes; what (*disk.Disk).Read reads. -/
import Derived.Test.YtoimhniijeafaaaDk6
import Derived.Test.YtoimhniijeafaaaClone
import Derived.RangeFuncNested
import Derived.RangeFuncBound
import Derived.RangeFuncCalls
import Derived.RangeFuncLeaves
import Derived.Shelf.Abstract
import Derived.Shelf.RegionOpen
import Derived.WalkKit
import Derived.OwnWalkIn
import Derived.TacticsInMore
import Derived.LoopNIn
import Derived.LoopIn
namespace Go.Proofs.Ytoimhniijeafaaa
open Go.RowKit Go.Shelf
attribute [local go_sem] Oper.semAt_some
set_option linter.unusedVariables false

set_option maxRecDepth 100000 in
set_option maxHeartbeats 3200000 in
theorem back_in (n l D N oc : Nat) (oo : Option Addr) (go : Nat) (J : Nat → World → Prop) (Jx : World → Prop) (W : World)
    (hD : ∀ j W, J j W → W.cell? ⟨D, 1, none⟩ = some (.slice oo N oc)) (hoo : 0 < N → oo = some ⟨go, 0, none⟩) (hN : N ≤ 100000)
    (hY : ∀ j, j < N → ∀ W, J (j + 1) W → YieldAt Fence.wide (n - 1) Try.prog l #[.pointer (some ⟨go, j * 513, none⟩)] W fun e W' => (e = .returned (.bool true) ∧ J j W') ∨ (e = .returned (.bool false) ∧ Jx W'))
    (h0 : J N W) :
    CallsIn Fence.wide n Try.prog 33 #[.pointer (some ⟨D, 0, none⟩), .func (.yield l) #[] #[]] W fun e W' => (∃ v, e = .returned v) ∧ (J 0 W' ∨ Jx W') := by
  refine callsIn_of_wp Try.func33 rfl trivial ?_ rfl
  simp only [Try.ntmps33, List.size_toArray, List.length_cons, List.length_nil, Nat.reduceAdd, Nat.reduceSub, Array.replicate_succ, Array.replicate_zero, List.push_toArray, List.append_toArray, List.nil_append, List.cons_append]
  have cD := hD N W h0
  have s1 : IntKind.i64.wrap ((N : Int) - 1) = (N : Int) - 1 := IntWalk.i64_in _ (by omega)
  have HD := Lib.hid hD
  have HY := Lib.hid hY
  have HOO := Lib.hid hoo
  clear hD hY hoo
  gi_wp2
  clear cD s1
  gi_loopw [4] (fun p wr => ∃ j : Nat, j ≤ N ∧ p = .int .i64 ((j : Int) - 1) ∧ J j wr) (fun p wr => ((intOf p) + 1).toNat)
  case atStart => exact ⟨N, Nat.le_refl _, rfl, h0⟩
  case round =>
    obtain ⟨j, hj, rfl, hJ⟩ := hrel
    have cD := HD.out j wr hJ
    cases j with
    | zero =>
      have q : ¬ (0 : Int) ≤ ((0 : Nat) : Int) - 1 := by omega
      gi_wp2
      go_end0
      exact ⟨⟨_, rfl⟩, .inl hJ⟩
    | succ j =>
      have hjj : (((j + 1 : Nat) : Int) - 1) = (j : Int) := by omega
      rw [hjj]
      have q : (0 : Int) ≤ (j : Int) := by omega
      have q2 : (j : Int) < (N : Int) := by omega
      have s2 : IntKind.i64.wrap ((j : Int) - 1) = (j : Int) - 1 := IntWalk.i64_in _ (by omega)
      obtain rfl := HOO.out (by omega)
      obtain ⟨fn, tmps, assign, body, hy, hR⟩ := HY.out j (by omega) wr hJ
      have HR := Lib.hid hR
      clear hR
      gi_wp2
      refine ⟨fun h => by simp [Fence.wide] at h, HR.out.mono ?_⟩
      rintro e W3 (⟨rfl, hJ3⟩ | ⟨rfl, hx3⟩)
      · gi_wp2
        go_roundw
        case rel => exact ⟨j, by omega, by simp, hJ3⟩
        case measure => simp [intOf]
      · gi_wp2
        exact bodyPost_ret (results_none rfl _ _ _) rfl ⟨⟨_, rfl⟩, .inr hx3⟩

/-- What a sector reads as. -/
def seenAt (L : List (List UInt8)) (O : List (Nat × List UInt8)) (m : Nat) : List UInt8 := O.foldl (fun x o => if o.1 = m then o.2 else x) (L.getD m [])
theorem seen_from (O : List (Nat × List UInt8)) (m : Nat) : ∀ x, (∀ o ∈ O, o.1 ≠ m) → O.foldl (fun x o => if o.1 = m then o.2 else x) x = x := by
  induction O with
  | nil => intro x _; rfl
  | cons o r ih =>
    intro x h
    show r.foldl _ (if o.1 = m then o.2 else x) = x
    rw [if_neg (h o (by simp))]
    exact ih x (fun q hq => h q (by simp [hq]))
theorem seen_none {L : List (List UInt8)} {O : List (Nat × List UInt8)} {m : Nat} (h : ∀ q (hq : q < O.length), O[q].1 ≠ m) : seenAt L O m = L.getD m [] := by
  refine seen_from O m _ (fun o ho => ?_)
  obtain ⟨q, hq, rfl⟩ := List.getElem_of_mem ho
  exact h q hq
theorem seen_last {L : List (List UInt8)} {O : List (Nat × List UInt8)} {m j : Nat} (hj : j < O.length) (he : O[j].1 = m) (h : ∀ q, j < q → ∀ (hq : q < O.length), O[q].1 ≠ m) : seenAt L O m = O[j].2 := by
  unfold seenAt
  conv => lhs; rw [← List.take_append_drop j O, List.drop_eq_getElem_cons hj, List.foldl_append, List.foldl_cons]
  rw [if_pos he]
  refine seen_from _ m _ (fun o ho => ?_)
  obtain ⟨q, hq, rfl⟩ := List.getElem_of_mem ho
  rw [List.getElem_drop]
  exact h _ (by omega) _
theorem seen_length {L : List (List UInt8)} {O : List (Nat × List UInt8)} {m : Nat} (hm : m < L.length) (hL : ∀ x ∈ L, x.length = 512) (hO : ∀ o ∈ O, o.2.length = 512) : (seenAt L O m).length = 512 := by
  unfold seenAt
  have : ∀ (O : List (Nat × List UInt8)) (x : List UInt8), x.length = 512 → (∀ o ∈ O, o.2.length = 512) → (O.foldl (fun x o => if o.1 = m then o.2 else x) x).length = 512 := by
    intro O
    induction O with
    | nil => intro x hx _; exact hx
    | cons o r ih =>
      intro x hx h
      refine ih _ ?_ (fun q hq => h q (by simp [hq]))
      show (if o.1 = m then o.2 else x).length = 512
      split
      · exact h o (by simp)
      · exact hx
  refine this O _ ?_ hO
  rw [List.getD_eq_getElem?_getD, List.getElem?_eq_getElem hm]
  exact hL _ (List.getElem_mem hm)

theorem keeps_turn {S : Nat → Prop} {w0 W : World} {l : Nat} {o : Obj} (hl : w0.heap.size ≤ l) (h : Keeps S w0 W) : Keeps S w0 (W.putObj l o) :=
  ⟨h.os, h.tape, h.output, by have := h.size; simpa [World.putObj] using this, fun k hk hn => (World.putObj_heap_other (by omega)).trans (h.block k hk hn)⟩
theorem turn_keeps (W : World) (l : Nat) (o : Obj) : Keeps (fun k => k = l) W (W.putObj l o) :=
  ⟨rfl, rfl, rfl, by simp [World.putObj], fun k _ hn => World.putObj_heap_other hn⟩
/-- How a round of Read's loop may be left. -/
def RdPost (S : Nat → Prop) (I : Prop) (Ix : World → Prop) (W : World) : Exit → Act → World → Prop
  | .normal, _, W' => Same W W' ∧ I
  | .ret, _, W' => Keeps S W W' ∧ Ix W'
  | _, _, _ => False

set_option maxRecDepth 100000 in
set_option maxHeartbeats 3200000 in
/-- A range over a disk's open writes, the newest one first, whose body changes nothing until it returns. -/
theorem wp_range_back {g : Operand} {ps : Array Tmp} {assign body : Code} {Q : Exit → Act → World → Prop} {a : Act} {w : World} (D N oc : Nat) (oo : Option Addr) (go : Nat)
    (hg : a.eval g = .func (.func 33) #[.pointer (some ⟨D, 0, none⟩)] #[]) (hps : ps.size = 1)
    (hD : ∀ W, Same w W → W.cell? ⟨D, 1, none⟩ = some (.slice oo N oc)) (hoo : 0 < N → oo = some ⟨go, 0, none⟩) (hN : N ≤ 100000)
    (S : Nat → Prop) (hS : ∀ k, S k → k < w.heap.size) (I : Nat → Prop) (Ix : World → Prop) (hIx : ∀ W W', Ix W → Keeps (fun k => k = w.heap.size + 1) W W' → Ix W') (h0 : I N) (a₁ : Nat → Act)
    (hassign : ∀ (j l : Nat) (W : World) (K : Act → World → Prop), K (a₁ j) W → assign.wpIn (Fence.wide.inRound l) 3 Try.prog (Exit.then K (fun _ _ _ => False)) { tmps := (ps.zip #[.pointer (some ⟨go, j * 513, none⟩)]).foldl (fun t (p, v) => t.setIfInBounds p v) a.tmps, defers := [] } W)
    (hbody : ∀ (j l : Nat) (W : World), j < N → I (j + 1) → Same w W → w.heap.size + 2 ≤ W.heap.size → body.wpIn (Fence.wide.inRound l) 3 Try.prog (RdPost S (I j) Ix W) (a₁ j) W)
    (hdone : ∀ W, I 0 → Same w W → W.heap[w.heap.size]? = some (.deferred (some [])) → Q .normal { a with defers := { target := .collected w.heap.size, args := #[] } :: a.defers } W)
    (hstop : ∀ W, Ix W → W.heap[w.heap.size]? = some (.deferred (some [])) → (Code.ret).wp Try.prog Q { a with defers := { target := .collected w.heap.size, args := #[] } :: a.defers } W) :
    (Code.rangeFunc g ps assign body).wp Try.prog Q a w := by
  refine (wpIn_wide (n := 5)).1 (wpIn_rangeFunc (fun fn hfn => ?_))
  obtain ⟨rec, hrec⟩ : ∃ rec : LoopState → Option Code → Loop, rec = fun st pe => { state := st, pending := pe, fn := fn, tmps := a.tmps, params := ps, assign := assign, body := body, defers := w.heap.size } := ⟨_, rfl⟩
  obtain ⟨W1, hW1⟩ : ∃ W1, (w.alloc (.deferred (some []))).alloc (.loop (rec .ready none)) = W1 := ⟨_, rfl⟩
  have hl1 : W1.heap[w.heap.size + 1]? = some (.loop (rec .ready none)) := by
    rw [← hW1]; have := World.alloc_heap_new (w.alloc (.deferred (some []))) (.loop (rec .ready none)); rwa [World.size_alloc] at this
  have hd1 : W1.heap[w.heap.size]? = some (.deferred (some [])) := by
    rw [← hW1]; exact (Below.heap_alloc _ _ _ (by simp)).trans (World.alloc_heap_new w _)
  have hk1 : Same w W1 := by rw [← hW1]; exact ((Keeps.refl _ _).alloc _).alloc _
  refine ⟨w.heap.size + 1, [{ target := .collected w.heap.size, args := #[] }], W1, { target := .fn (.func 33) #[], args := #[.pointer (some ⟨D, 0, none⟩), .func (.yield (w.heap.size + 1)) #[] #[]] }, W1, 33, #[.pointer (some ⟨D, 0, none⟩), .func (.yield (w.heap.size + 1)) #[] #[]], W1, ?_, ?_, ?_, ?_, (fun h => by simp [Fence.wide] at h), ?_⟩
  · rw [← hW1, hrec]; exact run_enterLoop_outer _ _ _ _ _
  · simp only [resolve, hg]
    simp [go_sem]
  · intro f' hf'; trivial
  · simp [invoke, go_sem]
  · refine (back_in (5 - 1) (w.heap.size + 1) D N oc oo go
      (fun j W => Same w W ∧ W.heap[w.heap.size + 1]? = some (.loop (rec .ready none)) ∧ W.heap[w.heap.size]? = some (.deferred (some [])) ∧ I j)
      (fun W => Ix W ∧ W.heap[w.heap.size + 1]? = some (.loop (rec .done (some .ret))) ∧ W.heap[w.heap.size]? = some (.deferred (some []))) W1 (fun j W h => hD W h.1) hoo hN ?_ ⟨hk1, hl1, hd1, h0⟩).mono ?_
    · rintro j hj W ⟨hs, hl, hd, hi⟩
      have hy := run_yield (P := Try.prog) (args := #[.pointer (some ⟨go, j * 513, none⟩)]) hl (by rw [hrec]; exact hps.symm)
      rw [hrec] at hy
      refine ⟨fn, _, assign, body, hy, roundIn_of_wpIn hfn (hassign j _ W _ ⟨_, run_beginRound hl (by rw [hrec]), ?_⟩)⟩
      have hlt := lt_of_block hl
      have hl2 : (W.putObj (w.heap.size + 1) (.loop { rec .ready none with state := .busy })).heap[w.heap.size + 1]? = some (.loop { rec .ready none with state := .busy }) := World.putObj_heap_same hlt
      have hd2 : (W.putObj (w.heap.size + 1) (.loop { rec .ready none with state := .busy })).heap[w.heap.size]? = some (.deferred (some [])) := (World.putObj_heap_other (by omega)).trans hd
      have hs2 : Same w (W.putObj (w.heap.size + 1) (.loop { rec .ready none with state := .busy })) := keeps_turn (by omega) hs
      have hsz2 := lt_of_block hl2
      generalize W.putObj (w.heap.size + 1) (.loop { rec .ready none with state := .busy }) = W2 at *
      refine wpIn_mono (hbody j _ W2 hj hi hs2 (by omega)) ?_
      rintro e a3 W3 hp
      cases e with
      | normal =>
        obtain ⟨k3, hi3⟩ := hp
        have hl3 := k3.obj hl2 (fun e => e)
        have hd3 := k3.obj hd2 (fun e => e)
        refine ⟨_, _, run_endRound none hl3, .inl ⟨rfl, keeps_turn (by omega) (hs2.trans k3 (fun _ _ e => e)), ?_, (World.putObj_heap_other (by omega)).trans hd3, hi3⟩⟩
        rw [World.putObj_heap_same (lt_of_block hl3), hrec]
        rfl
      | ret =>
        obtain ⟨k3, hi3⟩ := hp
        have hl3 := k3.obj hl2 (fun e => by have := hS _ e; omega)
        have hd3 := k3.obj hd2 (fun e => by have := hS _ e; omega)
        refine ⟨_, _, run_endRound (some .ret) hl3, .inr ⟨rfl, hIx _ _ hi3 (turn_keeps _ _ _), ?_, (World.putObj_heap_other (by omega)).trans hd3⟩⟩
        rw [World.putObj_heap_same (lt_of_block hl3), hrec]
        rfl
      | exit id => exact hp.elim
      | goto t => exact hp.elim
      | panic ch => exact hp.elim
      | outgrown => exact hp.elim
    · rintro e W2 ⟨⟨v, rfl⟩, (⟨hs, hl, hd, hi⟩ | ⟨hx, hl, hd⟩)⟩
      · exact ⟨none, _, by have := run_endLoop (P := Try.prog) hl (by rw [hrec]; simp); rw [hrec] at this; exact this, hdone _ hi (keeps_turn (by omega) hs) ((World.putObj_heap_other (by omega)).trans hd)⟩
      · exact ⟨some .ret, _, by have := run_endLoop (P := Try.prog) hl (by rw [hrec]; simp); rw [hrec] at this; exact this, wpIn_wide.2 (hstop _ (hIx _ _ hx (turn_keeps _ _ _)) ((World.putObj_heap_other (by omega)).trans hd))⟩

end Go.Proofs.Ytoimhniijeafaaa
