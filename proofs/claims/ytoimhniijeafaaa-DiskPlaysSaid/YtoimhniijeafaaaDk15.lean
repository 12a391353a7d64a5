/- The law's great. -/
import Derived.Test.YtoimhniijeafaaaDk14
namespace Go.Proofs.Ytoimhniijeafaaa
open Go.RowKit
set_option linter.unusedVariables false

def tooBig (o : LOp) : Bool := decide (2000 < o.ds.length) || decide (2000 < o.fs.length)
def greatOf (ops : List LOp) : Bool := decide (1000 < ops.length) || ops.any tooBig
theorem great_of (ops : List LOp) (h : greatOf ops = false) : ops.length ≤ 1000 ∧ ∀ o ∈ ops, o.ds.length ≤ 2000 ∧ o.fs.length ≤ 2000 := by
  unfold greatOf at h
  rw [Bool.or_eq_false_iff, List.any_eq_false] at h
  refine ⟨by have := h.1; simp at this; omega, fun o ho => ?_⟩
  have := h.2 o ho
  unfold tooBig at this
  simp at this
  omega
def lop0 : List Value := [.int .i64 0, .int .i64 0, .slice none 0 0, .bool false, .slice none 0 0]
theorem sizeLOp (o : LOp) : (Try.prog.info? 34).map (·.size) = some o.cells.length := by
  have : (Try.prog.info? 34).map (·.size) = some 5 := by kernel_rfl
  rw [this]; rfl
theorem lop_cells (o : LOp) : (o.cells.toArray).all (·.oneCell') = true := by simp [LOp.cells, Value.oneCell']

theorem lop_one (o : LOp) : ∀ v ∈ o.cells, v.oneCell' = true := by simp [LOp.cells, Value.oneCell']
/-- A fresh variable is given an operation. -/
theorem store_lop (w : World) (x : LOp) : ∃ w3, (storeCells ⟨w.heap.size, 0, none⟩ x.cells).run Try.prog (w.alloc (.cells #[.int .i64 0, .int .i64 0, .slice none 0 0, .bool false, .slice none 0 0] 34)) = .ok () w3 ∧
    w3.heap[w.heap.size]? = some (.cells x.cells.toArray 34 (0, 0)) ∧ Same w w3 ∧ w3.heap.size = w.heap.size + 1 := by
  have h := run_storeCells_from (P := Try.prog) w.heap.size 34 x.cells 0 lop0.toArray (w.alloc (.cells lop0.toArray 34)) (heap_alloc_new w _) (by rfl) (lop_one x)
  refine ⟨_, h, ?_, ((Keeps.refl _ _).alloc _).setRow _ _ (.inl (Nat.le_refl _)), by simp⟩
  exact setRow_heap _ _ _ _ _ (0, 0) (heap_alloc_new w _)

set_option maxRecDepth 100000 in
set_option maxHeartbeats 3200000 in
theorem great_ok (w : World) (ao : Option Addr) (n cap : Nat) (ops : List LOp) (hn : n = ops.length) (h : Ops w ao ops) :
    Calls Try.prog 10 #[.slice ao n cap] w fun e w' => e = .returned (.bool (greatOf ops)) ∧ Same w w' := by
  have g1 : 1000 < ops.length → greatOf ops = true := fun q => by unfold greatOf; simp [q]
  have g2 : ∀ j (hj : j < ops.length), tooBig ops[j] = true → greatOf ops = true := fun j hj q => by
    unfold greatOf
    rw [Bool.or_eq_true, List.any_eq_true]
    exact .inr ⟨_, List.getElem_mem hj, q⟩
  have g3 : ops.length ≤ 1000 → (∀ j (hj : j < ops.length), tooBig ops[j] = false) → greatOf ops = false := fun q k => by
    unfold greatOf
    rw [Bool.or_eq_false_iff, List.any_eq_false]
    refine ⟨by simp; omega, fun o ho => ?_⟩
    obtain ⟨j, hj, rfl⟩ := List.mem_iff_getElem.1 ho
    rw [k j hj]; simp
  have HO := Lib.hid h
  generalize greatOf ops = q at *
  have G2 := Lib.hid g2
  have G3 := Lib.hid g3
  clear g2 g3 h
  by_cases hb : 1000 < n
  · obtain rfl : q = true := g1 (by omega)
    have hb2 : (1000 : Int) < (n : Int) := by omega
    clear g1
    go_enter Try.func10, Try.ntmps10
    go_wp2
    go_ret
    exact ⟨rfl, Keeps.refl _ _⟩
  have hb2 : ¬ (1000 : Int) < (n : Int) := by omega
  clear g1
  have HN := Lib.hid hn
  have HB := Lib.hid hb
  clear hn hb
  go_enter Try.func10, Try.ntmps10
  go_wp2
  clear hb2
  go_loopw [10] (fun i wr => ∃ j : Nat, j ≤ n ∧ i = .int .i64 j ∧ (∀ p, p < j → ∀ (hp : p < ops.length), tooBig ops[p] = false) ∧ Same w wr) (fun i _ => n - (intOf i).toNat)
  case atStart => exact ⟨0, by omega, rfl, fun p hp => by omega, Keeps.refl _ _⟩
  case round =>
    obtain ⟨j, hj, rfl, hs, hk⟩ := hrel
    have HS := Lib.hid hs
    have HK := Lib.hid hk
    clear hs
    by_cases hlt : j < n
    · have hlt2 : (j : Int) < (n : Int) := by omega
      have hjo : j < ops.length := by have := HN.out; omega
      obtain ⟨g, off, rfl, hat⟩ := (HO.out.same hk).at (by omega)
      have hr := (hat j hjo).1
      have HG2 := Lib.hid (G2.out j hjo)
      have HNX : Hid (tooBig ops[j] = false → ∀ p, p < j + 1 → ∀ (hp : p < ops.length), tooBig ops[p] = false) := Lib.hid (fun e p hp hp2 => by
        by_cases hpj : p = j
        · subst hpj; exact e
        · exact HS.out p (by omega) hp2)
      have HL := Lib.hid (sizeLOp ops[j])
      have HC := Lib.hid (lop_cells ops[j])
      generalize ops[j] = x at *
      have HRA := Lib.hid hr
      clear hk hat hr
      obtain ⟨w3, hst, hb3, hk3, hs3⟩ := store_lop wr x
      have HK3 : Hid (Same w w3) := Lib.hid (HK.out.trans hk3 (fun _ _ e => e))
      obtain ⟨c0, c1, c2, c3, c4⟩ := cell_of_five hb3
      have HB3 := Lib.hid hb3
      clear hb3 hk3 hs3
      by_cases hd : 2000 < x.ds.length
      · have hd2 : (2000 : Int) < (x.ds.length : Int) := by omega
        obtain rfl : q = true := HG2.out (by unfold tooBig; simp [hd])
        go_wp2_with (refine wpList_load_mid (by rfl) 34 _ (by rfl) g (off + j * 5) (by rfl) x.cells _ HRA.out Try.underlying34 rfl HL.out ?_)
        go_ret
        exact ⟨rfl, HK3.out⟩
      have hd2 : ¬ (2000 : Int) < (x.ds.length : Int) := by omega
      by_cases hf : 2000 < x.fs.length
      · have hf2 : (2000 : Int) < (x.fs.length : Int) := by omega
        obtain rfl : q = true := HG2.out (by unfold tooBig; simp [hf])
        go_wp2_with (refine wpList_load_mid (by rfl) 34 _ (by rfl) g (off + j * 5) (by rfl) x.cells _ HRA.out Try.underlying34 rfl HL.out ?_)
        go_ret
        exact ⟨rfl, HK3.out⟩
      have hf2 : ¬ (2000 : Int) < (x.fs.length : Int) := by omega
      have hnb : n ≤ 1000 := by have := HB.out; omega
      have HT : Hid (tooBig x = false) := Lib.hid (by unfold tooBig; simp; omega)
      go_wp2_with (refine wpList_load_mid (by rfl) 34 _ (by rfl) g (off + j * 5) (by rfl) x.cells _ HRA.out Try.underlying34 rfl HL.out ?_)
      go_roundw
      case rel => exact ⟨j + 1, by omega, by go_num, HNX.out HT.out, HK3.out⟩
      case measure => simp [intOf]; omega
    · have hlt2 : ¬ (j : Int) < (n : Int) := by omega
      obtain rfl : q = false := G3.out (by have := HN.out; have := HB.out; omega) (fun p hp => HS.out p (by have := HN.out; omega) hp)
      go_wp2
      go_ret
      exact ⟨rfl, HK.out⟩
end Go.Proofs.Ytoimhniijeafaaa
