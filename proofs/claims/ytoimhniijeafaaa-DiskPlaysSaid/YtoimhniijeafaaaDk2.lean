/- What disk.New does. -/
import Derived.Test.YtoimhniijeafaaaDk1
namespace Go.Proofs.Ytoimhniijeafaaa
open Go.RowKit
set_option linter.unusedVariables false

/-- A sector of noughts. -/
def noughts : List UInt8 := List.replicate 512 0
theorem noughts_length : noughts.length = 512 := List.length_replicate
theorem Try.infoSector : (Try.prog.info? 59).map (fun i => (i.zero, i.size, i.bytes)) = some (some (.agg (u8s noughts).toArray), 512, 512) := by kernel_rfl
/-- A disk of so many empty sectors. -/
def DSt.new (n : Nat) : DSt := ⟨List.replicate n noughts, [], false, 0, false⟩
def disk0 (lv : Value) : List Value := [lv, .slice none 0 0, .bool false, .int .i64 0, .bool false]

set_option maxRecDepth 100000 in
set_option maxHeartbeats 3200000 in
theorem new_no (n : Int) (w : World) (h : n < 1 ∨ 4096 < n) :
    Calls Try.prog 11 #[.int .i64 n] w fun e w' => e = .returned (.tuple #[.pointer none, .int .i64 1]) ∧ w' = w := by
  by_cases q : n < 1
  · clear h
    go_enter Try.func11, Try.ntmps11
    go_wp2
    go_ret2
    exact ⟨rfl, rfl⟩
  · have q2 : (4096 : Int) < n := by omega
    clear h
    go_enter Try.func11, Try.ntmps11
    go_wp2
    go_ret2
    exact ⟨rfl, rfl⟩

set_option maxRecDepth 100000 in
set_option maxHeartbeats 3200000 in
theorem new_ok (n : Nat) (w : World) (h1 : 1 ≤ n) (h2 : n ≤ 4096) :
    Calls Try.prog 11 #[.int .i64 n] w fun e w' => ∃ D lv ov, e = .returned (.tuple #[.pointer (some ⟨D, 0, none⟩), .int .i64 0]) ∧ DiskAt w' D lv ov (DSt.new n) ∧ Same w w' ∧ ∀ k, Foot D lv ov k → w.heap.size ≤ k := by
  obtain ⟨ie, hie, hz0, hz1, hz2⟩ := info_parts Try.infoSector
  have q1 : ¬ (n : Int) < 1 := by omega
  have q2 : ¬ (4096 : Int) < (n : Int) := by omega
  have hnl : ((u8s noughts).toArray).size = 512 := by simp [u8s_length, noughts_length]
  go_enter Try.func11, Try.ntmps11
  go_wp2_with fail
  clear q1 q2
  have hob : Whole (w.alloc (.cells (disk0 (.slice none 0 0)).toArray 57)) w.heap.size 57 (disk0 (.slice none 0 0)) := heap_alloc_new w _
  have HOB := Lib.hid hob
  clear hob
  go_loopw [14] (fun i wr => ∃ (j : Nat) (lv : Value), j ≤ n ∧ i = .int .i64 j ∧ Whole wr w.heap.size 57 (disk0 lv) ∧ wr.ownsRow (w.heap.size + 1) 59 512 lv j ((List.replicate j noughts).flatMap u8s) ∧ Same w wr) (fun i _ => n - (intOf i).toNat)
  case atStart => exact ⟨0, .slice none 0 0, by omega, rfl, HOB.out, World.ownsRow_nil _ _ _ _, (Keeps.refl _ _).alloc _⟩
  case round =>
    obtain ⟨j, lv, hj, rfl, hw, ho, hs⟩ := hrel
    have HW := Lib.hid hw
    have HO := Lib.hid ho
    have HS := Lib.hid hs
    have hlt0 := hw.lt
    clear ho hs
    by_cases hlt : j < n
    · have hlt2 : (j : Int) < (n : Int) := by omega
      have c0 := hw.cell (i := 0) rfl
      obtain ⟨w1, hw1⟩ : ∃ w1, wr.alloc (.cells (u8s noughts).toArray 59) = w1 := ⟨_, rfl⟩
      have k1 : Same wr w1 := by rw [← hw1]; exact (Keeps.refl _ _).alloc _
      have HW1 := Lib.hid (HW.out.keep k1 (fun e => e))
      have HO1 := Lib.hid (own_keeps k1 HO.out (fun _ _ e => e))
      have HS1 : Hid (Same w w1) := Lib.hid (HS.out.trans k1 (fun _ _ e => e))
      have HCL : Hid (∀ q u, (u8s noughts)[q]? = some u → w1.cell? ((⟨wr.heap.size, 0, none⟩ : Addr).add q) = some u) := Lib.hid (fun q u hu => by
        rw [Addr.add_mid, ← hw1, cell_of_row _ _ _ _ _ _ (heap_alloc_new wr _)]
        simpa using hu)
      have hsz1 : wr.heap.size < w1.heap.size := by rw [← hw1]; simp
      have HWW := Lib.hid hw1
      clear hw k1 hw1
      go_wp2_with (first
        | (refine wpList_buildTo (by rfl) 59 _ (by rfl) _ (by rfl) (u8s noughts).toArray (by kernel_rfl) ?_)
        | (refine wpList_buildOne (by rfl) 54 59 _ (by rfl) (u8s noughts).toArray ie _ (by rfl) Try.underlying54 hie hz0 (by rw [hz1, hnl]) (by rw [hnl]; omega) (by rw [hnl]; omega) ?_; rw [HWW.out])
        | (at_builtin; refine (wpList_append_own _ (by rfl) _ _ 54 (by rfl) (w.heap.size + 1) 59 ie (.agg (u8s noughts).toArray) 512 512 Try.underlying54 hie hz0 hz1 hz2 hnl (by omega) lv j _ (by rfl) HO1.out ⟨wr.heap.size, 0, none⟩ 1 1 (u8s noughts) (by rfl) (by rw [u8s_length, noughts_length]) HCL.out (u8s_cell _) (by simp only [maxLen]; omega) (by omega) (by omega) ?_)))
      intro lv' w2 ho2 hg2 _
      have k2 : Keeps (fun q => w.heap.size + 1 ≤ q ∧ lv.ownBlock = some q) w1 w2 := (Keeps.refl _ _).grown hg2 (fun q e _ => ⟨(HO1.out.lt q e).1, e⟩)
      have hw2 := HW1.out.keep k2 (by omega)
      have f2 := hw2.cell (i := 0) rfl
      have g2 := hw2.free 0
      obtain ⟨w3, hw3⟩ : ∃ w3, w2.setCell ⟨w.heap.size, 0, none⟩ lv' = w3 := ⟨_, rfl⟩
      have k3 : Keeps (fun q => q = w.heap.size) w2 w3 := by rw [← hw3]; exact (Keeps.refl _ _).setCell _ _ (.inr rfl)
      have HW3 : Hid (Whole w3 w.heap.size 57 (disk0 lv')) := Lib.hid (by rw [← hw3]; exact hw2.set 0 lv')
      have HO3 : Hid (w3.ownsRow (w.heap.size + 1) 59 512 lv' (j + 1) ((List.replicate (j + 1) noughts).flatMap u8s)) := Lib.hid (by
        rw [List.replicate_succ', List.flatMap_append]
        have := own_keeps k3 ho2 (fun q e hs => by have := (ho2.lt q e).1; omega)
        simpa using this)
      have HS3 : Hid (Same w w3) := Lib.hid ((HS1.out.trans k2 (fun q hq e => by omega)).trans k3 (fun q hq e => by omega))
      have HV3 := Lib.hid hw3
      obtain ⟨lo, lc, rfl⟩ : ∃ g c, lv' = .slice (some ⟨g, 0, none⟩) (j + 1) c := by
        rcases ho2.2 with ⟨_, h0⟩ | ⟨g, cp, cur, e, _⟩
        · omega
        · exact ⟨g, cp, e⟩
      clear ho2 hg2 k2 hw2 k3 hw3 HO1 HW1 HS1 HCL HO HW HS
      go_wp2
      rw [HV3.out]
      go_roundw
      case rel => exact ⟨j + 1, _, by omega, by go_num, HW3.out, HO3.out, HS3.out⟩
      case measure => simp [intOf]; omega
    · have hlt2 : ¬ (j : Int) < (n : Int) := by omega
      obtain rfl : j = n := by omega
      clear hw
      go_wp2
      go_ret2
      refine ⟨w.heap.size, rfl, lv, .slice none 0 0, ⟨HW.out, ?_, ?_, ?_, ?_, ?_, ?_, ?_, ?_, ?_⟩, HS.out, ?_⟩
      · have := own_base HO.out (Nat.zero_le _)
        simpa [OwnRow, DSt.new] using this
      · exact World.ownsRow_nil _ _ _ _
      · intro e; have := (HO.out.lt _ e).1; omega
      · intro e; cases e
      · intro k _ e; cases e
      · intro x hx; simp only [DSt.new, List.mem_replicate] at hx; rw [hx.2]; exact noughts_length
      · intro o ho; simp [DSt.new] at ho
      · simp only [DSt.new, List.length_replicate]; exact h2
      · intro e; cases e
      · rintro k (rfl | e | e)
        · exact Nat.le_refl _
        · have := (HO.out.lt k e).1; omega
        · cases e
end Go.Proofs.Ytoimhniijeafaaa
