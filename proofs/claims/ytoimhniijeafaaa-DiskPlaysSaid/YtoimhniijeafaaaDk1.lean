/- Disks in memory; the calls that only look, or count. -/
import Derived.Test.YtoimhniijeafaaaDk0
namespace Go.Proofs.Ytoimhniijeafaaa
open Go.RowKit
set_option linter.unusedVariables false

/-- What a disk is. -/
structure DSt where
  L : List (List UInt8)
  O : List (Nat × List UInt8)
  lim : Bool
  left : Int
  down : Bool
/-- The cells of an open write. -/
def wcells (o : Nat × List UInt8) : List Value := .int .i64 (o.1 : Int) :: u8s o.2
theorem wcells_length (o : Nat × List UInt8) : (wcells o).length = o.2.length + 1 := by simp [wcells, u8s_length]
theorem wcells_one (o : Nat × List UInt8) : ∀ u ∈ wcells o, u.oneCell' = true := by
  intro u hu
  rcases List.mem_cons.1 hu with rfl | hu
  · rfl
  · exact u8s_cell _ u hu
def dcells (lv ov : Value) (s : DSt) : List Value := [lv, ov, .bool s.lim, .int .i64 s.left, .bool s.down]

structure DiskAt (w : World) (D : Nat) (lv ov : Value) (s : DSt) : Prop where
  obj : Whole w D 57 (dcells lv ov s)
  las : OwnRow w 59 512 u8s lv s.L
  opn : OwnRow w 64 513 wcells ov s.O
  nl : lv.ownBlock ≠ some D
  no : ov.ownBlock ≠ some D
  nx : ∀ k, lv.ownBlock = some k → ov.ownBlock ≠ some k
  sec : ∀ x ∈ s.L, x.length = 512
  wr : ∀ o ∈ s.O, o.2.length = 512 ∧ o.1 < s.L.length
  few : s.L.length ≤ 4096
  lft : s.lim = true → 0 ≤ s.left ∧ s.left ≤ 9223372036854775807
/-- The blocks of a disk. -/
def Foot (D : Nat) (lv ov : Value) : Nat → Prop := fun k => k = D ∨ lv.ownBlock = some k ∨ ov.ownBlock = some k
theorem DiskAt.foot_lt {w : World} {D : Nat} {lv ov : Value} {s : DSt} (h : DiskAt w D lv ov s) : ∀ k, Foot D lv ov k → k < w.heap.size := by
  rintro k (rfl | e | e)
  · exact h.obj.lt
  · exact h.las.lt k e
  · exact h.opn.lt k e
theorem DiskAt.keep {S : Nat → Prop} {w w' : World} {D : Nat} {lv ov : Value} {s : DSt} (h : DiskAt w D lv ov s) (k : Keeps S w w') (hs : ∀ k, Foot D lv ov k → ¬ S k) : DiskAt w' D lv ov s :=
  ⟨h.obj.keep k (hs D (.inl rfl)), h.las.keep k (fun j e => hs j (.inr (.inl e))), h.opn.keep k (fun j e => hs j (.inr (.inr e))), h.nl, h.no, h.nx, h.sec, h.wr, h.few, h.lft⟩
theorem DiskAt.same {w w' : World} {D : Nat} {lv ov : Value} {s : DSt} (h : DiskAt w D lv ov s) (k : Same w w') : DiskAt w' D lv ov s := h.keep k (fun _ _ e => e)
/-- What a step of a disk may change. -/
structure DStep (w w' : World) (D : Nat) (lv ov lv' ov' : Value) : Prop where
  keep : Keeps (Foot D lv ov) w w'
  new : ∀ k, Foot D lv' ov' k → Foot D lv ov k ∨ w.heap.size ≤ k
theorem DStep.trans {w w1 w2 : World} {D : Nat} {lv ov lv1 ov1 lv2 ov2 : Value} (h : DStep w w1 D lv ov lv1 ov1) (k : DStep w1 w2 D lv1 ov1 lv2 ov2) : DStep w w2 D lv ov lv2 ov2 :=
  ⟨h.keep.trans k.keep (fun j hj e => by rcases h.new j e with h1 | h1; exact h1; omega), fun j e => by
    rcases k.new j e with h1 | h1
    · exact h.new j h1
    · right; have := h.keep.size; omega⟩
theorem DStep.of_same {w w' : World} {D : Nat} {lv ov : Value} (k : Same w w') : DStep w w' D lv ov lv ov := ⟨k.any, fun _ e => .inl e⟩
theorem cell_of_five {w : World} {b : Nat} {v0 v1 v2 v3 v4 : Value} {t : TypeId} (h : w.heap[b]? = some (.cells #[v0, v1, v2, v3, v4] t (0, 0))) :
    w.cell? ⟨b, 0, none⟩ = some v0 ∧ w.cell? ⟨b, 1, none⟩ = some v1 ∧ w.cell? ⟨b, 2, none⟩ = some v2 ∧ w.cell? ⟨b, 3, none⟩ = some v3 ∧ w.cell? ⟨b, 4, none⟩ = some v4 := by simp [World.cell?, h]
theorem DiskAt.cells {w : World} {D : Nat} {lv ov : Value} {s : DSt} (h : DiskAt w D lv ov s) : w.cell? ⟨D, 0, none⟩ = some lv ∧ w.cell? ⟨D, 1, none⟩ = some ov ∧ w.cell? ⟨D, 2, none⟩ = some (.bool s.lim) ∧ w.cell? ⟨D, 3, none⟩ = some (.int .i64 s.left) ∧ w.cell? ⟨D, 4, none⟩ = some (.bool s.down) := cell_of_five h.obj
/-- A store into the disk's own numbers. -/
theorem DiskAt.set {w : World} {D : Nat} {lv ov : Value} {s s' : DSt} (h : DiskAt w D lv ov s) (i : Nat) (v : Value) (hc : (dcells lv ov s).set i v = dcells lv ov s') (hL : s'.L = s.L) (hO : s'.O = s.O) (hl : s'.lim = true → 0 ≤ s'.left ∧ s'.left ≤ 9223372036854775807) :
    DiskAt (w.setCell ⟨D, i, none⟩ v) D lv ov s' ∧ DStep w (w.setCell ⟨D, i, none⟩ v) D lv ov lv ov := by
  have hk : Keeps (fun k => k = D) w (w.setCell ⟨D, i, none⟩ v) := (Keeps.refl _ _).setCell _ _ (.inr rfl)
  refine ⟨⟨by have := h.obj.set i v; rwa [hc] at this, by rw [hL]; exact h.las.keep hk (fun j e e2 => h.nl (by rw [e, e2])), by rw [hO]; exact h.opn.keep hk (fun j e e2 => h.no (by rw [e, e2])), h.nl, h.no, h.nx, by rw [hL]; exact h.sec, by rw [hL, hO]; exact h.wr, by rw [hL]; exact h.few, hl⟩, hk.mono (fun _ _ e => .inl e), fun _ e => .inl e⟩

set_option maxRecDepth 100000 in
set_option maxHeartbeats 1600000 in
theorem reach_ok (w : World) (D : Nat) (lv ov : Value) (s : DSt) (i : Int) (h : DiskAt w D lv ov s) :
    Calls Try.prog 32 #[.pointer (some ⟨D, 0, none⟩), .int .i64 i] w fun e w' => e = .returned (.int .i64 (if s.down = true then 3 else if 0 ≤ i ∧ i < (s.L.length : Int) then 0 else 2)) ∧ w' = w := by
  obtain ⟨c0, c1, c2, c3, c4⟩ := h.cells
  obtain ⟨lo, lc, rfl, _, _⟩ := h.las.form
  generalize s.L.length = n at *
  generalize s.down = dn at *
  clear h c1 c2 c3
  cases dn with
  | true =>
    go_enter Try.func32, Try.ntmps32
    go_wp2
    go_ret
    exact ⟨rfl, rfl⟩
  | false =>
    by_cases q : i < 0
    · have q2 : ¬ (0 ≤ i ∧ i < (n : Int)) := by omega
      have Q2 := Lib.hid q2
      clear q2
      go_enter Try.func32, Try.ntmps32
      go_wp2
      go_ret
      exact ⟨rfl, rfl⟩
    · by_cases q1 : i < (n : Int)
      · have Q2 := Lib.hid (show 0 ≤ i ∧ i < (n : Int) by omega)
        have q3 : ¬ i ≥ (n : Int) := by omega
        go_enter Try.func32, Try.ntmps32
        go_wp2
        go_ret
        exact ⟨rfl, rfl⟩
      · have Q2 := Lib.hid (show ¬ (0 ≤ i ∧ i < (n : Int)) by omega)
        have q3 : i ≥ (n : Int) := by omega
        go_enter Try.func32, Try.ntmps32
        go_wp2
        go_ret
        exact ⟨rfl, rfl⟩

set_option maxRecDepth 100000 in
set_option maxHeartbeats 1600000 in
theorem sectors_ok (w : World) (D : Nat) (lv ov : Value) (s : DSt) (h : DiskAt w D lv ov s) :
    Calls Try.prog 25 #[.pointer (some ⟨D, 0, none⟩)] w fun e w' => e = .returned (.int .i64 (s.L.length : Nat)) ∧ w' = w := by
  obtain ⟨c0, c1, c2, c3, c4⟩ := h.cells
  obtain ⟨lo, lc, rfl, _, _⟩ := h.las.form
  generalize s.L.length = n at *
  clear h c1 c2 c3 c4
  go_enter Try.func25, Try.ntmps25
  go_wp2
  go_ret
  exact ⟨rfl, rfl⟩

/-- What using one call up makes of a disk, and whether there was one. -/
def DSt.spent (s : DSt) : DSt := if s.lim = false then s else if s.left = 0 then { s with down := true } else { s with left := s.left - 1 }
def DSt.power (s : DSt) : Bool := !s.lim || s.left != 0

set_option maxRecDepth 100000 in
set_option maxHeartbeats 1600000 in
theorem spend_ok (w : World) (D : Nat) (lv ov : Value) (s : DSt) (h : DiskAt w D lv ov s) :
    Calls Try.prog 26 #[.pointer (some ⟨D, 0, none⟩)] w fun e w' => e = .returned (.int .i64 (if s.power = true then 0 else 3)) ∧ DiskAt w' D lv ov s.spent ∧ DStep w w' D lv ov lv ov := by
  obtain ⟨c0, c1, c2, c3, c4⟩ := h.cells
  have f3 := h.obj.free 3
  have f4 := h.obj.free 4
  have H := Lib.hid h
  have hl := h.lft
  clear h c0 c1
  obtain ⟨L, O, lim, left, dn⟩ := s
  cases lim with
  | false =>
    clear hl
    rw [show (if (DSt.power ⟨L, O, false, left, dn⟩) = true then (0 : Int) else 3) = 0 from rfl]
    go_enter Try.func26, Try.ntmps26
    go_wp2
    go_ret
    exact ⟨rfl, H.out, DStep.of_same (Keeps.refl _ _)⟩
  | true =>
    have hl' := hl rfl
    simp only at hl'
    clear hl
    by_cases q : left = 0
    · subst q
      rw [show (if (DSt.power ⟨L, O, true, 0, dn⟩) = true then (0 : Int) else 3) = 3 from rfl]
      have HE := Lib.hid (H.out.set (s' := ⟨L, O, true, 0, true⟩) 4 (.bool true) rfl rfl rfl (fun _ => by simp))
      go_enter Try.func26, Try.ntmps26
      go_wp2
      go_ret
      exact ⟨rfl, HE.out.1, HE.out.2⟩
    · have q1 : (left == 0) = false := by simpa using q
      have s1 : IntKind.i64.wrap (left - 1) = left - 1 := IntWalk.i64_in _ (by omega)
      have HQ := Lib.hid q
      rw [show (if (DSt.power ⟨L, O, true, left, dn⟩) = true then (0 : Int) else 3) = 0 from by
        rw [if_pos]; simpa [DSt.power] using q]
      have HE := Lib.hid (H.out.set (s' := ⟨L, O, true, left - 1, dn⟩) 3 (.int .i64 (left - 1)) rfl rfl rfl (fun _ => by simp only; omega))
      clear q
      go_enter Try.func26, Try.ntmps26
      go_wp2
      go_ret
      refine ⟨rfl, ?_, HE.out.2⟩
      · have hp : (DSt.spent ⟨L, O, true, left, dn⟩) = ⟨L, O, true, left - 1, dn⟩ := by have := HQ.out; simp [DSt.spent, this]
        rw [hp]; exact HE.out.1

/-- A limit. -/
def DSt.limit (s : DSt) (c : Int) : DSt := { s with lim := decide (0 ≤ c), left := c }
set_option maxRecDepth 100000 in
set_option maxHeartbeats 1600000 in
theorem limit_ok (w : World) (D : Nat) (lv ov : Value) (s : DSt) (c : Int) (hc : c ≤ 9223372036854775807) (h : DiskAt w D lv ov s) :
    Calls Try.prog 16 #[.pointer (some ⟨D, 0, none⟩), .int .i64 c] w fun e w' => (∃ v, e = .returned v) ∧ DiskAt w' D lv ov (s.limit c) ∧ DStep w w' D lv ov lv ov := by
  obtain ⟨L, O, lim, left, dn⟩ := s
  obtain ⟨q, hq⟩ : ∃ q, decide (0 ≤ c) = q := ⟨_, rfl⟩
  have h1 := (Keeps.refl (fun k => k = D) w).setCell ⟨D, 2, none⟩ (.bool q) (.inr rfl)
  have h2 := h1.setCell ⟨D, 3, none⟩ (.int .i64 c) (.inr rfl)
  have o2 := (h.obj.set 2 (.bool q)).set 3 (.int .i64 c)
  have HE : Hid (DiskAt ((w.setCell ⟨D, 2, none⟩ (.bool q)).setCell ⟨D, 3, none⟩ (.int .i64 c)) D lv ov (DSt.limit ⟨L, O, lim, left, dn⟩ c)) := Lib.hid
    ⟨by simpa [DSt.limit, dcells, hq] using o2, h.las.keep h2 (fun j e e2 => h.nl (by rw [e, e2])), h.opn.keep h2 (fun j e e2 => h.no (by rw [e, e2])), h.nl, h.no, h.nx, h.sec, h.wr, h.few, fun e => by
      have : 0 ≤ c := by simpa [DSt.limit] using e
      exact ⟨this, hc⟩⟩
  have HK : Hid (DStep w ((w.setCell ⟨D, 2, none⟩ (.bool q)).setCell ⟨D, 3, none⟩ (.int .i64 c)) D lv ov lv ov) := Lib.hid ⟨h2.mono (fun _ _ e => .inl e), fun _ e => .inl e⟩
  obtain ⟨c0, c1, c2, c3, c4⟩ := h.cells
  have f2 := h.obj.free 2
  have f3 := h.obj.free 3
  have d3 := (h.obj.set 2 (.bool q)).cell (i := 3) rfl
  have g3 := (h.obj.set 2 (.bool q)).free 3
  have HQ := Lib.hid (show decide (c ≥ 0) = q from hq)
  clear h h1 h2 o2 c0 c1 c4 hq
  go_enter Try.func16, Try.ntmps16
  go_wp2
  go_end0
  rw [show decide (0 ≤ c) = q from HQ.out]
  exact ⟨⟨_, rfl⟩, HE.out, HK.out⟩
end Go.Proofs.Ytoimhniijeafaaa
