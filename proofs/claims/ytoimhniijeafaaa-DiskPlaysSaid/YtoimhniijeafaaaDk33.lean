/- Both disks beside each other, in one state; the bytes of any operation. -/
import Derived.Test.YtoimhniijeafaaaDk31
import Derived.Test.YtoimhniijeafaaaDk32
import Derived.Test.YtoimhniijeafaaaDk16
namespace Go.Proofs.Ytoimhniijeafaaa
open Go.RowKit
set_option linter.unusedVariables false

theorem lop_bytes (x : LOp) (w : World) (hx : x.In w) (hl : x.ds.length ≤ 2000) :
    Calls Try.prog 13 #[.agg x.cells.toArray] w fun e w' => ∃ g c B, e = .returned (.slice (some ⟨g, 0, none⟩) B.length c) ∧ B.length ≤ 2000 ∧ w'.ownsRow w.heap.size 5 1 (.slice (some ⟨g, 0, none⟩) B.length c) B.length (u8s B) ∧ Same w w' := by
  obtain ⟨kd, at', da, dc, ds, raw, fa, fc, fs⟩ := x
  cases raw with
  | true => exact (bytes_raw kd at' da fa dc fs.length fc ds w hx.1 (by simp only at hl; omega)).mono fun e w' ⟨g, c, he, ho, hk⟩ => ⟨g, c, ds, he, hl, ho, hk⟩
  | false => exact (bytes_ok kd at' da fa dc fs.length fc ds w hx.1).mono fun e w' ⟨g, he, ho, hk⟩ => ⟨g, 512, filled ds, by rw [filled_length]; exact he, by rw [filled_length]; omega, by rw [filled_length]; exact ho, hk⟩
theorem Dk.lft {F : Nat → Prop} {w : World} {D : Nat} {s : DSt} (h : Dk F w D s) : s.lim = true → 0 ≤ s.left ∧ s.left ≤ 9223372036854775807 := by
  obtain ⟨lv, ov, h, _⟩ := h
  exact h.lft
/-- Both disks, made behind w, in one state, with no block of both. -/
structure PlI (w wr : World) (F G : Nat → Prop) (D M : Nat) (s : DSt) : Prop where
  dk : Dk F wr D s
  rk : Rk G wr M s
  same : Same w wr
  fw : ∀ k, F k → w.heap.size ≤ k
  gw : ∀ k, G k → w.heap.size ≤ k
  apart : ∀ k, F k → ¬ G k
  pos : 0 < s.L.length
variable {w wr w' : World} {F G F' G' : Nat → Prop} {D M : Nat} {s s' : DSt}
theorem PlI.keep (h : PlI w wr F G D M s) (k : Same wr w') : PlI w w' F G D M s := ⟨h.dk.same k, h.rk.same k, h.same.trans k (fun _ _ e => e), h.fw, h.gw, h.apart, h.pos⟩
/-- Behind a call of the program's disk and then one of the document's. -/
theorem PlI.both {w1 w2 : World} (h : PlI w wr F G D M s) (hd : Dk F' w1 D s') (k1 : Keeps F wr w1) (g1 : Grow F F' wr) (hr : Rk G' w2 M s') (k2 : Keeps G w1 w2) (g2 : Grow G G' w1) (hp : 0 < s'.L.length) : PlI w w2 F' G' D M s' := by
  have hsz := h.same.size
  have hsz1 := k1.size
  have hFG : ∀ k, F' k → ¬ G k := fun k e e2 => by
    rcases g1 k e with e | e
    · exact h.apart k e e2
    · have := h.rk.lt k e2; omega
  refine ⟨hd.keep k2 hFG, hr, (h.same.trans k1 (fun j hj e => by have := h.fw j e; omega)).trans k2 (fun j hj e => by have := h.gw j e; omega), fun k e => ?_, fun k e => ?_, fun k e e2 => ?_, hp⟩
  · rcases g1 k e with e | e
    · exact h.fw k e
    · omega
  · rcases g2 k e with e | e
    · exact h.gw k e
    · omega
  · rcases g2 k e2 with e2 | e2
    · exact hFG k e e2
    · have := hd.lt k e; omega
/-- The state keeps its sectors' number. -/
theorem spent_len (s : DSt) : s.spent.L = s.L ∧ s.spent.O = s.O := by unfold DSt.spent; split <;> (try split) <;> exact ⟨rfl, rfl⟩
theorem flushed_len (s : DSt) : s.flushed.L.length = s.L.length ∧ s.flushed.O.length ≤ s.O.length := by
  unfold DSt.flushed
  split
  · exact ⟨rfl, Nat.le_refl _⟩
  · split
    · exact ⟨applied_len _ _, Nat.zero_le _⟩
    · rw [(spent_len s).1, (spent_len s).2]; exact ⟨rfl, Nat.le_refl _⟩
theorem awrote_len (s : DSt) (i : Int) (bs : List UInt8) : (s.awrote i bs).L.length = s.L.length ∧ (s.awrote i bs).O.length ≤ s.O.length + 1 := by
  unfold DSt.awrote DSt.wrote
  split
  · split
    · exact ⟨rfl, Nat.le_succ _⟩
    · split
      · rw [(spent_len _).1, (spent_len _).2]; simp
      · exact ⟨rfl, Nat.le_succ _⟩
  · exact ⟨rfl, Nat.le_succ _⟩
end Go.Proofs.Ytoimhniijeafaaa
