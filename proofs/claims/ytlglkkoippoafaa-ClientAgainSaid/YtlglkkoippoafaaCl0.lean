/- Copies of operations, calls and answers (package twin). -/
import Derived.Test.YtlglkkoippoafaaWm5
import Derived.Test.YtlglkkoippoafaaFresh
import Derived.Test.YtlglkkoippoafaaPack3
import Derived.Laws.ResultCell
import Derived.Laws.AppendOwn
import Derived.Test.YtlglkkoippoafaaLrow
namespace Go.Proofs.Ytlglkkoippoafaa
open Go.RowKit
set_option linter.unusedVariables false

/-- A row of its own reads, and lies apart from what was there. -/
def FarFrom (lo : Nat) (v : Value) (ds : List UInt8) : Prop := ∀ a n c, v = .slice (some a) n c → ds ≠ [] → a.spot = none ∧ lo ≤ a.block
theorem FarFrom.own {w : World} {base : Nat} {e : TypeId} {v : Value} {n : Nat} {ds : List UInt8} (h : w.ownsRow base e 1 v n (u8s ds)) : FarFrom base v ds := fun a m c e _ => by
  rcases h.2 with ⟨rfl, h0⟩ | ⟨g, cap, cur, rfl, _, _⟩
  · cases e
  · simp only [Value.slice.injEq, Option.some.injEq] at e
    obtain ⟨rfl, _, _⟩ := e
    exact ⟨rfl, (h.lt g rfl).1⟩
theorem FarFrom.le {lo lo' : Nat} {v : Value} {ds : List UInt8} (h : FarFrom lo v ds) (k : lo' ≤ lo) : FarFrom lo' v ds := fun a n c e h0 => ⟨(h a n c e h0).1, by have := (h a n c e h0).2; omega⟩
theorem Reads.far {S : Nat → Prop} {lo : Nat} {w w' : World} {v : Value} {ds : List UInt8} (h : Reads w v ds) (f : FarFrom lo v ds) (k : Keeps S w w') (hs : ∀ j, S j → j < lo) : Reads w' v ds := by
  obtain ⟨ao, c, e, h1, h2, h3⟩ := h
  refine ⟨ao, c, e, ?_, h2, h3⟩
  by_cases h0 : ds = []
  · subst h0; rw [e]; exact Bytes.nil _ _ _
  · exact h1.keeps k (fun a n c' e2 hS => by have := (f a n c' e2 h0).2; have := hs _ hS; omega)

theorem cloneB_any (x : Value) (ds : List UInt8) (w : World) (h : Reads w x ds) (hl : ds.length ≤ 140737488351232) :
    Calls Try.prog 34 #[x] w fun e w' => Same w w' ∧ ∃ v, e = .returned v ∧ Reads w' v ds ∧ FarFrom w.heap.size v ds := by
  obtain ⟨ao, c, rfl, h1, h2, h3⟩ := h
  cases ao with
  | none =>
    have h0 : ds = [] := by
      rcases h1 with ⟨a, c', e, _⟩ | ⟨c', e, h⟩
      · simp at e
      · exact h
    subst h0
    exact (clone_nil c w).mono fun e w' ⟨he, hw⟩ => by subst hw; exact ⟨Keeps.refl _ _, _, he, Reads.nil _ _ _, fun a n c e => by cases e⟩
  | some a => exact (clone_some a c ds w h1 hl).mono fun e w' ⟨v, he, ho, hk, _⟩ => ⟨hk, v, he, Reads.of_own ho rfl, FarFrom.own ho⟩

theorem Try.infoStrC : (Try.prog.info? 9).map (fun i => (i.zero, i.size, i.bytes)) = some (some (.string ⟨#[]⟩), 1, 16) := by kernel_rfl
set_option maxRecDepth 100000 in
set_option maxHeartbeats 1600000 in
theorem cloneS_any (no : Option Addr) (n nc : Nat) (ss : List ByteArray) (w : World) (h : Strs w (.slice no n nc) ss) (hn : ss.length = n) (hl : n ≤ 1000000) :
    Calls Try.prog 38 #[.slice no n nc] w fun e w' => Same w w' ∧ ∃ ao c, e = .returned (.slice ao n c) ∧ Strs w' (.slice ao n c) ss ∧ ∀ a, ao = some a → w.heap.size ≤ a.block := by
  have q22 : ∀ (w : World) (a : Option Addr) (n c n' c' : Nat), (binOp .eql 39 (.slice a n c) (.slice none n' c')).run Try.prog w = .ok (.bool a.isNone) w := fun w a n c n' c' => Lib.run_eql_slice_nil w _ _ a n c n' c' Try.underlying39
  obtain ⟨ie, hie, hz0, hz1, hz2⟩ := info_partsV Try.infoStrC
  cases no with
  | none =>
    have h0 : ss = [] ∧ n = 0 := by
      rcases h with ⟨a, c', e, _⟩ | ⟨c', e, h⟩
      · simp at e
      · subst h; exact ⟨rfl, by simpa using hn.symm⟩
    obtain ⟨rfl, rfl⟩ := h0
    go_enter Try.func38, Try.ntmps38
    go_wp2
    go_ret
    exact ⟨Keeps.refl _ _, none, 0, rfl, Strs.nil _ _ _, fun a e => by cases e⟩
  | some a =>
    have hcell : ∀ o j u, (ss.map Value.string)[j]? = some u → (w.alloc o).cell? (a.add j) = some u := by
      rcases h with ⟨a', c', h1, hc⟩ | ⟨c', h1, _⟩
      · simp only [Value.slice.injEq, Option.some.injEq] at h1
        obtain ⟨rfl, _, _⟩ := h1
        intro o j u hu
        rw [List.getElem?_map] at hu
        obtain ⟨s, hs, rfl⟩ := Option.map_eq_some_iff.1 hu
        have h2 := hc j s hs
        rw [World.cell?_of_block (w := w) (Below.heap_alloc w o _ (World.block_lt_of_cell? w _ h2))]
        exact h2
      · simp at h1
    have HC := Lib.hid hcell
    have HN := Lib.hid hn
    have HZ := Lib.hid hz0
    clear hcell h hn hz0
    go_enter Try.func38, Try.ntmps38
    go_wp2_with (at_builtin; refine wpList_append_own _ (by rfl) _ _ _ (by rfl) w.heap.size 9 ie _ 1 16 Try.underlying39 hie HZ.out hz1 hz2 rfl (by omega) _ 0 [] (by rfl) (World.ownsRow_made w #[] 0 (Nat.le_refl _) (by unfold maxLen; omega) (by simp)) a n nc (ss.map Value.string) (by rfl) (by rw [List.length_map, HN.out, Nat.mul_one]) (HC.out _) (by simp [Value.oneCell']) (by unfold maxLen; omega) (by omega) (by simp) ?_)
    intro v' w1 hown1 hgrow hnil
    have HO : Hid (w1.ownsRow w.heap.size 9 1 v' n (ss.map Value.string)) := Lib.hid (by simpa using hown1)
    have HK : Hid (Same w w1) := Lib.hid (((Keeps.refl _ _).alloc _).grown hgrow (by rintro k hk hlt; simp [Value.ownBlock] at hk; omega))
    clear hown1 hgrow hnil
    go_wp2
    go_ret
    refine ⟨HK.out, ?_⟩
    rcases HO.out.2 with ⟨rfl, h0⟩ | ⟨g, cap, cur, rfl, hb0, hg, hc1, hc2, hc3, hc4⟩
    · subst h0
      have := List.length_eq_zero_iff.1 HN.out
      subst this
      exact ⟨none, 0, rfl, Strs.nil _ _ _, fun a e => by cases e⟩
    · refine ⟨some ⟨g, 0, none⟩, cap, rfl, .inl ⟨⟨g, 0, none⟩, cap, by rw [HN.out], fun j s hj => ?_⟩, fun a e => by simp only [Option.some.injEq] at e; subst e; exact hb0⟩
      exact HO.out.cells rfl j (.string s) (by simp [hj])

def opL (k off n : Int) (p t : ByteArray) (x : Value) : List Value := [.int .i64 k, .string p, .string t, .int .i64 off, .int .i64 n, x]
def opL0 : List Value := opL 0 0 0 ⟨#[]⟩ ⟨#[]⟩ (.slice none 0 0)
theorem Try.zeroOpL (w : World) : (zeroValue 32).run Try.prog w = .ok (.agg opL0.toArray) w := by kernel_rfl
theorem Reads.one {w : World} {v : Value} {ds : List UInt8} (h : Reads w v ds) : v.oneCell' = true := by obtain ⟨_, _, rfl, _⟩ := h; rfl
theorem opL_all {w : World} {x : Value} {ds : List UInt8} (h : Reads w x ds) (k off n : Int) (p t : ByteArray) : (opL k off n p t x).toArray.all (·.oneCell') = true := by
  have := h.one
  simp [opL, Value.oneCell'] at this ⊢; exact this

set_option maxRecDepth 100000 in
set_option maxHeartbeats 3200000 in
theorem twinOp_any (k off n : Int) (p t : ByteArray) (x : Value) (ds : List UInt8) (w : World) (hx : Reads w x ds) (hl : ds.length ≤ 140737488351232) :
    Calls Try.prog 21 #[.agg (opL k off n p t x).toArray] w fun e w' => Same w w' ∧ ∃ y, e = .returned (.agg (opL k off n p t y).toArray) ∧ Reads w' y ds ∧ FarFrom w.heap.size y ds := by
  have hzs := Try.zeroOpL
  have HX := Lib.hid hx
  obtain ⟨xo, xc, rfl, _⟩ := id hx
  obtain ⟨w1, hw1⟩ : ∃ w1, w.alloc (.cells (opL k off n p t (.slice xo ds.length xc)).toArray 32) = w1 := ⟨_, rfl⟩
  obtain ⟨w2, hw2⟩ : ∃ w2, w1.alloc (.cells opL0.toArray 32) = w2 := ⟨_, rfl⟩
  have hs1 : w1.heap.size = w.heap.size + 1 := by rw [← hw1]; simp
  have HLT : Hid (w.heap.size < w1.heap.size ∧ w1.heap.size < w2.heap.size) := Lib.hid (by rw [← hw2]; simp; omega)
  have HK2 : Hid (Same w w2) := Lib.hid (by rw [← hw2, ← hw1]; exact ((Keeps.refl _ _).alloc _).alloc _)
  have HA : Hid (Whole w2 w.heap.size 32 (opL k off n p t (.slice xo ds.length xc))) := Lib.hid (by
    have h1 : Whole w1 w.heap.size 32 (opL k off n p t (.slice xo ds.length xc)) := by rw [← hw1]; exact heap_alloc_new w _
    rw [← hw2]; exact h1.keep ((Keeps.refl (fun _ => False) _).alloc _) (fun e => e))
  have HB : Hid (Whole w2 w1.heap.size 32 opL0) := Lib.hid (by rw [← hw2]; exact heap_alloc_new w1 _)
  have c5 : w2.cell? ⟨w.heap.size, 5, none⟩ = some (.slice xo ds.length xc) := HA.out.cell (i := 5) rfl
  have HCL := Lib.hid (cloneB_any _ ds w2 (HX.out.same HK2.out) hl)
  clear hx hs1
  go_enter Try.func21, Try.ntmps21
  go_wp2_with fail
  ((with_reducible refine (HCL.out).mono ?_); rintro e w3 ⟨hk3, y, rfl, hy, hf⟩)
  obtain ⟨yo, yc, rfl, _⟩ := id hy
  obtain ⟨ln, hln⟩ : ∃ n, ds.length = n := ⟨_, rfl⟩
  rw [hln] at hy hf c5 HA HX ⊢
  clear hln
  have HY := Lib.hid hy
  have HF := Lib.hid hf
  have HK3 := Lib.hid (HK2.out.trans hk3 (fun _ _ e => e))
  have HA3 := Lib.hid (HA.out.keep hk3 (fun e => e))
  have HB3 := Lib.hid (HB.out.keep hk3 (fun e => e))
  have c5 := HA3.out.cell (i := 5) rfl
  have z5 := HA3.out.free 5
  obtain ⟨w4, hw4⟩ : ∃ w4, w3.setCell ⟨w.heap.size, 5, none⟩ (.slice yo ln yc) = w4 := ⟨_, rfl⟩
  have HA4 : Hid (Whole w4 w.heap.size 32 (opL k off n p t (.slice yo ln yc))) := Lib.hid (by rw [← hw4]; exact HA3.out.set 5 _)
  have HB4 : Hid (Whole w4 w1.heap.size 32 opL0) := Lib.hid (by rw [← hw4]; exact HB3.out.far _ (by have := HLT.out; simp only; omega) _)
  have HK4 : Hid (Keeps (fun q => w.heap.size ≤ q ∧ q < w2.heap.size) w3 w4) := Lib.hid (by rw [← hw4]; exact (Keeps.refl _ _).setCell _ _ (.inr (by have := HLT.out; simp only; omega)))
  have HEND : Hid (Same w (w4.setRow w1.heap.size (opL k off n p t (.slice yo ln yc)).toArray) ∧ Whole (w4.setRow w1.heap.size (opL k off n p t (.slice yo ln yc)).toArray) w1.heap.size 32 (opL k off n p t (.slice yo ln yc)) ∧ Reads (w4.setRow w1.heap.size (opL k off n p t (.slice yo ln yc)).toArray) (.slice yo ln yc) ds) := Lib.hid (by
    have kk : Keeps (fun q => w.heap.size ≤ q ∧ q < w2.heap.size) w3 (w4.setRow w1.heap.size (opL k off n p t (.slice yo ln yc)).toArray) := HK4.out.setRow _ _ (.inr (by have := HLT.out; omega))
    refine ⟨HK3.out.trans kk (fun q hq e => by omega), HB4.out.row, ?_⟩
    exact HY.out.far HF.out kk (fun j e => e.2))
  have HO := Lib.hid (opL_all HY.out k off n p t)
  clear hk3 hy hf HCL HA HB hw1 hw2
  go_wp2_with (first
    | (refine wpList_load_row (by rfl) 32 _ (by rfl) w.heap.size (by rfl) 32 (opL k off n p t (.slice yo ln yc)).toArray (0, 0) _ HA4.out Try.underlying32 rfl (by exact Try.sizeOpW) ?_)
    | (refine wpList_store_row (by rfl) 32 _ _ (by rfl) w1.heap.size (opL k off n p t (.slice yo ln yc)).toArray (by rfl) (by rfl) 32 opL0.toArray HB4.out (by exact Try.sizeOpW) rfl HO.out ?_))
  refine bodyPost_ret (results_cell_row rfl _ _ w1.heap.size 32 _ (0, 0) _ (by rfl) HEND.out.2.1 Try.underlying32 rfl (by exact Try.sizeOpW)) rfl
    ⟨HEND.out.1, _, rfl, HEND.out.2.2, HF.out.le (by have := HLT.out; omega)⟩
end Go.Proofs.Ytlglkkoippoafaa
