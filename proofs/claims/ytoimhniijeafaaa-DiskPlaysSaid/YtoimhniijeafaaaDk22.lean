/- The document's own disk in memory; the calls that count. -/
import Derived.Test.YtoimhniijeafaaaDk16
namespace Go.Proofs.Ytoimhniijeafaaa
open Go.RowKit
set_option linter.unusedVariables false

def RRow (w : World) (p : Value × List UInt8) : Prop := w.ownsRow 0 5 1 p.1 512 (u8s p.2) ∧ p.2.length = 512
def ocells (o : Nat × (Value × List UInt8)) : List Value := [.int .i64 (o.1 : Int), o.2.1]
theorem ocells_length (o : Nat × (Value × List UInt8)) : (ocells o).length = 2 := rfl
/-- The document's disk: its slices, and the rows that they hold. -/
structure RefAt (w : World) (D : Nat) (lv ov : Value) (L : List (Value × List UInt8)) (O : List (Nat × (Value × List UInt8))) (left : Int) (down : Bool) : Prop where
  obj : Whole w D 62 [lv, ov, .int .i64 left, .bool down]
  las : w.ownsRow 0 31 1 lv L.length (L.map Prod.fst)
  opn : OwnRow w 66 2 ocells ov O
  rowL : ∀ p ∈ L, RRow w p
  rowO : ∀ o ∈ O, RRow w o.2 ∧ o.1 < L.length
  nl : lv.ownBlock ≠ some D
  no : ov.ownBlock ≠ some D
  nx : ∀ k, lv.ownBlock = some k → ov.ownBlock ≠ some k
  sepL : ∀ p ∈ L, ∀ k, p.1.ownBlock = some k → k ≠ D ∧ lv.ownBlock ≠ some k ∧ ov.ownBlock ≠ some k
  sepO : ∀ o ∈ O, ∀ k, o.2.1.ownBlock = some k → k ≠ D ∧ lv.ownBlock ≠ some k ∧ ov.ownBlock ≠ some k
  few : L.length ≤ 4096
def FootR (D : Nat) (lv ov : Value) (L : List (Value × List UInt8)) (O : List (Nat × (Value × List UInt8))) (k : Nat) : Prop :=
  k = D ∨ lv.ownBlock = some k ∨ ov.ownBlock = some k ∨ (∃ p ∈ L, p.1.ownBlock = some k) ∨ ∃ o ∈ O, o.2.1.ownBlock = some k
theorem RRow.keep {S : Nat → Prop} {w w' : World} {p : Value × List UInt8} (h : RRow w p) (k : Keeps S w w') (hs : ∀ j, p.1.ownBlock = some j → ¬ S j) : RRow w' p := ⟨own_keeps k h.1 hs, h.2⟩
variable {w w' : World} {D : Nat} {lv ov : Value} {L : List (Value × List UInt8)} {O : List (Nat × (Value × List UInt8))} {left : Int} {down : Bool}
theorem RefAt.keep {S : Nat → Prop} (h : RefAt w D lv ov L O left down) (k : Keeps S w w') (hs : ∀ j, FootR D lv ov L O j → ¬ S j) : RefAt w' D lv ov L O left down :=
  ⟨h.obj.keep k (hs D (.inl rfl)), own_keeps k h.las (fun j e => hs j (.inr (.inl e))), h.opn.keep k (fun j e => hs j (.inr (.inr (.inl e)))), fun p hp => (h.rowL p hp).keep k (fun j e => hs j (.inr (.inr (.inr (.inl ⟨p, hp, e⟩))))),
    fun o ho => ⟨(h.rowO o ho).1.keep k (fun j e => hs j (.inr (.inr (.inr (.inr ⟨o, ho, e⟩))))), (h.rowO o ho).2⟩, h.nl, h.no, h.nx, h.sepL, h.sepO, h.few⟩
theorem RefAt.foot_lt (h : RefAt w D lv ov L O left down) : ∀ k, FootR D lv ov L O k → k < w.heap.size := by
  rintro k (rfl | e | e | ⟨p, hp, e⟩ | ⟨o, ho, e⟩)
  · exact h.obj.lt
  · exact (h.las.lt k e).2
  · exact h.opn.lt k e
  · exact ((h.rowL p hp).1.lt k e).2
  · exact ((h.rowO o ho).1.1.lt k e).2
theorem cell_of_four' {w : World} {b : Nat} {v0 v1 v2 v3 : Value} {t : TypeId} (h : w.heap[b]? = some (.cells #[v0, v1, v2, v3] t (0, 0))) :
    w.cell? ⟨b, 0, none⟩ = some v0 ∧ w.cell? ⟨b, 1, none⟩ = some v1 ∧ w.cell? ⟨b, 2, none⟩ = some v2 ∧ w.cell? ⟨b, 3, none⟩ = some v3 := by simp [World.cell?, h]
/-- A store into the disk's own numbers. -/
theorem RefAt.set (h : RefAt w D lv ov L O left down) (i : Nat) (v : Value) (left' : Int) (down' : Bool) (hc : [lv, ov, .int .i64 left, .bool down].set i v = [lv, ov, .int .i64 left', .bool down']) :
    RefAt (w.setCell ⟨D, i, none⟩ v) D lv ov L O left' down' ∧ Keeps (fun k => k = D) w (w.setCell ⟨D, i, none⟩ v) := by
  have hk : Keeps (fun k => k = D) w (w.setCell ⟨D, i, none⟩ v) := (Keeps.refl _ _).setCell _ _ (.inr rfl)
  refine ⟨⟨by have := h.obj.set i v; rwa [hc] at this, own_keeps hk h.las (fun j e e2 => h.nl (by rw [e, e2])), h.opn.keep hk (fun j e e2 => h.no (by rw [e, e2])), fun p hp => (h.rowL p hp).keep hk (fun j e e2 => (h.sepL p hp j e).1 e2), fun o ho => ⟨(h.rowO o ho).1.keep hk (fun j e e2 => (h.sepO o ho j e).1 e2), (h.rowO o ho).2⟩, h.nl, h.no, h.nx, h.sepL, h.sepO, h.few⟩, hk⟩

def DSt.rleft (s : DSt) : Int := if s.lim = true then s.left else -1
/-- The document's disk in a state, whose blocks are F. -/
def Rk (F : Nat → Prop) (w : World) (D : Nat) (s : DSt) : Prop := ∃ lv ov L O, RefAt w D lv ov L O s.rleft s.down ∧ F = FootR D lv ov L O ∧ L.map Prod.snd = s.L ∧ O.map (fun o => (o.1, o.2.2)) = s.O
theorem Rk.keep {S F : Nat → Prop} {s : DSt} (h : Rk F w D s) (k : Keeps S w w') (hs : ∀ j, F j → ¬ S j) : Rk F w' D s := by
  obtain ⟨lv, ov, L, O, h, rfl, e1, e2⟩ := h
  exact ⟨lv, ov, L, O, h.keep k hs, rfl, e1, e2⟩
theorem Rk.same {F : Nat → Prop} {s : DSt} (h : Rk F w D s) (k : Same w w') : Rk F w' D s := h.keep k (fun _ _ e => e)
theorem Rk.lt {F : Nat → Prop} {s : DSt} (h : Rk F w D s) : ∀ k, F k → k < w.heap.size := by
  obtain ⟨lv, ov, L, O, h, rfl, _⟩ := h
  exact h.foot_lt

set_option maxRecDepth 100000 in
set_option maxHeartbeats 1600000 in
theorem rk_use (w : World) (F : Nat → Prop) (D : Nat) (s : DSt) (h : Rk F w D s) (hl : s.lim = true → 0 ≤ s.left ∧ s.left ≤ 9223372036854775807) :
    Calls Try.prog 27 #[.pointer (some ⟨D, 0, none⟩)] w fun e w' => e = .returned (.bool s.power) ∧ Rk F w' D s.spent ∧ Keeps (fun k => k = D) w w' := by
  obtain ⟨lv, ov, L, O, h, rfl, e1, e2⟩ := h
  obtain ⟨c0, c1, c2, c3⟩ := cell_of_four' h.obj
  have f2 := h.obj.free 2
  have f3 := h.obj.free 3
  have H := Lib.hid h
  clear h c0 c1
  obtain ⟨SL, SO, lim, sl, dn⟩ := s
  simp only at e1 e2 hl
  have E1 := Lib.hid e1
  have E2 := Lib.hid e2
  clear e1 e2
  cases lim with
  | false =>
    clear hl
    have hr : (DSt.rleft ⟨SL, SO, false, sl, dn⟩) = -1 := rfl
    rw [hr] at c2
    rw [show DSt.power ⟨SL, SO, false, sl, dn⟩ = true from rfl]
    clear hr
    go_enter Try.func27, Try.ntmps27
    go_wp2
    go_ret
    exact ⟨rfl, ⟨lv, ov, L, O, H.out, rfl, E1.out, E2.out⟩, Keeps.refl _ _⟩
  | true =>
    have hl' := hl rfl
    clear hl
    have hr : (DSt.rleft ⟨SL, SO, true, sl, dn⟩) = sl := rfl
    rw [hr] at c2 H
    by_cases q : sl = 0
    · subst q
      rw [show DSt.power ⟨SL, SO, true, 0, dn⟩ = false from rfl]
      have HE := Lib.hid (H.out.set 3 (.bool true) 0 true rfl)
      clear hr
      go_enter Try.func27, Try.ntmps27
      go_wp2
      go_ret
      exact ⟨rfl, ⟨lv, ov, L, O, HE.out.1, rfl, E1.out, E2.out⟩, HE.out.2⟩
    · have q1 : (sl == 0) = false := by simpa using q
      have q2 : (0 : Int) < sl := by omega
      have HP : Hid (DSt.power ⟨SL, SO, true, sl, dn⟩ = true) := Lib.hid (by simp [DSt.power, q])
      have HE := Lib.hid (H.out.set 2 (.int .i64 (sl - 1)) (sl - 1) dn rfl)
      have HSP : Hid (DSt.spent ⟨SL, SO, true, sl, dn⟩ = ⟨SL, SO, true, sl - 1, dn⟩) := Lib.hid (by simp [DSt.spent, q])
      rw [HP.out, HSP.out]
      have q3 : IntKind.i64.wrap (sl - 1) = sl - 1 := IntWalk.i64_in _ (by omega)
      clear hr q
      go_enter Try.func27, Try.ntmps27
      go_wp2
      go_ret
      exact ⟨rfl, ⟨lv, ov, L, O, HE.out.1, rfl, E1.out, E2.out⟩, HE.out.2⟩

set_option maxRecDepth 100000 in
set_option maxHeartbeats 1600000 in
theorem rk_limit (w : World) (F : Nat → Prop) (D : Nat) (s : DSt) (c : Int) (h : Rk F w D s) :
    Calls Try.prog 17 #[.pointer (some ⟨D, 0, none⟩), .int .i64 c] w fun e w' => (∃ v, e = .returned v) ∧ Rk F w' D (s.limit c) ∧ Keeps (fun k => k = D) w w' := by
  obtain ⟨lv, ov, L, O, h, rfl, e1, e2⟩ := h
  obtain ⟨c0, c1, c2, c3⟩ := cell_of_four' h.obj
  have f2 := h.obj.free 2
  have HE := h.set 2 (.int .i64 c) c s.down rfl
  have HE2 := HE.1.set 2 (.int .i64 (-1)) (-1) s.down rfl
  have d2 := (cell_of_four' HE.1.obj).2.2.1
  have g2 := HE.1.obj.free 2
  have H1 := Lib.hid HE
  have H2 := Lib.hid HE2
  have E1 := Lib.hid e1
  have E2 := Lib.hid e2
  clear h c0 c1 c3 HE HE2 e1 e2
  by_cases q : c < 0
  · have HR : Hid ((s.limit c).rleft = -1) := Lib.hid (by simp [DSt.limit, DSt.rleft]; omega)
    go_enter Try.func17, Try.ntmps17
    go_wp2
    go_end0
    exact ⟨⟨_, rfl⟩, ⟨lv, ov, L, O, by rw [HR.out]; exact H2.out.1, rfl, E1.out, E2.out⟩, H1.out.2.trans H2.out.2 (fun _ _ e => e)⟩
  · have HR : Hid ((s.limit c).rleft = c) := Lib.hid (by simp [DSt.limit, DSt.rleft]; omega)
    go_enter Try.func17, Try.ntmps17
    go_wp2
    go_end0
    exact ⟨⟨_, rfl⟩, ⟨lv, ov, L, O, by rw [HR.out]; exact H1.out.1, rfl, E1.out, E2.out⟩, H1.out.2⟩
end Go.Proofs.Ytoimhniijeafaaa
