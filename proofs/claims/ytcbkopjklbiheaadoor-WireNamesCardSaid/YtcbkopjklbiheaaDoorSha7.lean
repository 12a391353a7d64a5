/- (*Hasher).Sum; sha.Sum -/
import Derived.Test.YtcbkopjklbiheaaDoorWhole
import Derived.Test.YtcbkopjklbiheaaDoorSha6
import Derived.Laws.Rows
namespace Go.Proofs.YtcbkopjklbiheaaDoor
open Go.RowKit
set_option linter.unusedVariables false

/-- The digest's bytes. -/
def sumByte (s : St) (j : Nat) : UInt8 := UInt8.ofNat ((s.list.getD (j / 4) 0).toNat / 256 ^ (3 - j % 4))
def sumTo (s : St) (j : Nat) : List UInt8 := (List.range j).map (sumByte s) ++ List.replicate (32 - j) 0
theorem sumTo_length (s : St) (j : Nat) (h : j ≤ 32) : (sumTo s j).length = 32 := by unfold sumTo; simp; omega
theorem sumTo_succ (s : St) (j : Nat) (h : j < 32) : (sumTo s j).set j (sumByte s j) = sumTo s (j + 1) := by
  unfold sumTo
  rw [List.set_append_right _ _ (by simp), List.range_succ, List.map_append, List.append_assoc]
  obtain ⟨m, hm⟩ : ∃ m, 32 - j = m + 1 := ⟨31 - j, by omega⟩
  rw [hm, show 32 - (j + 1) = m from by omega, List.replicate_succ]
  simp
def digest (h : HS) : List UInt8 := sumTo (finish h).s 32
theorem digest_length (h : HS) : (digest h).length = 32 := sumTo_length _ _ (by omega)

theorem sum_shift' (x : Wd) (k : Nat) (hk : k < 4) : wn x / 2 ^ (24 - 8 * k) % 256 = ((UInt8.ofNat (x.toNat / 256 ^ (3 - k))).toNat : Int) := by
  have h1 : ((2 : Int) ^ (24 - 8 * k)) = ((256 ^ (3 - k) : Nat) : Int) := by
    rw [show ((2 : Int) ^ (24 - 8 * k)) = ((2 ^ (24 - 8 * k) : Nat) : Int) from by push_cast; rfl, show 24 - 8 * k = 8 * (3 - k) from by omega, Nat.pow_mul]
  rw [h1, UInt8.toNat_ofNat']
  unfold wn
  rw [← Int.natCast_ediv]
  omega
theorem u8s_all (bs : List UInt8) : (u8s bs).toArray.all (·.oneCell') = true := by
  rw [Array.all_eq_true_iff_forall_mem]
  intro v hv
  exact u8s_cell bs v (by simpa using hv)

theorem cells_all (s : St) (ch : List UInt8) (n : Nat) : (hcells s ch n).toArray.all (·.oneCell') = true := by
  rw [Array.all_eq_true_iff_forall_mem]
  intro v hv
  simp only [hcells, u32s, u8s, List.mem_toArray, List.mem_append, List.mem_map, List.mem_singleton] at hv
  rcases hv with (⟨_, _, rfl⟩ | ⟨_, _, rfl⟩) | rfl <;> rfl

def zst : St := ⟨0, 0, 0, 0, 0, 0, 0, 0⟩
def zcells : List Value := hcells zst (List.replicate 64 0) 0
theorem zcells_length : zcells.length = 73 := hcells_length _ _ _ (by simp)
theorem Tryd.zeroHasher (w : World) : (zeroValue 126).run Tryd.prog w = .ok (.agg zcells.toArray) w := by kernel_rfl

set_option maxRecDepth 100000 in
set_option maxHeartbeats 12800000 in
theorem sum_any (B : Nat) (h : HS) (w : World) (hh : HasherAt w B h) (hN : Nums w) :
    Calls Tryd.prog 56 #[.pointer (some ⟨B, 0, none⟩)] w fun e w' => e = .returned (.agg (u8s (digest h)).toArray) ∧ Same w w' := by
  have HN := Lib.hid hN
  have HH := Lib.hid hh
  have h0 : 0 < w.heap.size := World.block_lt_of_cell? w _ (hN 0 (by omega))
  have hi46 : (Tryd.prog.info? 126).map (·.size) = some h.cells.toArray.size := by
    have e : h.cells.toArray.size = 73 := by rw [List.size_toArray]; exact hcells_length _ _ _ hh.len
    have e2 : (Tryd.prog.info? 126).map (·.size) = some 73 := by kernel_rfl
    rw [e]; exact e2
  have HI46 := Lib.hid hi46
  have HG : Hid (w.heap[B]? = some (.cells h.cells.toArray 126 (0, 0))) := Lib.hid hh.whole
  have hBl := hh.whole.lt
  have hz := Tryd.zeroHasher
  have hsz : zcells.toArray.size = h.cells.toArray.size := by rw [List.size_toArray, List.size_toArray, zcells_length]; exact (hcells_length _ _ _ hh.len).symm
  have HSZ := Lib.hid hsz
  clear hN hh hi46 hsz
  go_enter Tryd.func56, Tryd.ntmps56
  go_wp2_with (first
    | (refine wpList_load_row (by rfl) 126 _ (by rfl) B (by rfl) 126 h.cells.toArray (0, 0) _ (((Keeps.refl (fun _ => False) w).alloc _).obj HG.out (fun e => e)) Tryd.underlying126 rfl HI46.out ?_)
    | (refine wpList_store_row (by rfl) 126 _ _ (by rfl) (w.heap.size + 1) h.cells.toArray (by rfl) (by rfl) 126 zcells.toArray (by have h9 := heap_alloc_new (w.alloc (.cells #[.int .u8 0, .int .u8 0, .int .u8 0, .int .u8 0, .int .u8 0, .int .u8 0, .int .u8 0, .int .u8 0, .int .u8 0, .int .u8 0, .int .u8 0, .int .u8 0, .int .u8 0, .int .u8 0, .int .u8 0, .int .u8 0, .int .u8 0, .int .u8 0, .int .u8 0, .int .u8 0, .int .u8 0, .int .u8 0, .int .u8 0, .int .u8 0, .int .u8 0, .int .u8 0, .int .u8 0, .int .u8 0, .int .u8 0, .int .u8 0, .int .u8 0, .int .u8 0] 25)) (.cells zcells.toArray 126); simpa using h9) HI46.out HSZ.out (cells_all _ _ _) ?_))
  refine (finish_any (w.heap.size + 1) h _ ?hA ?hN).mono ?hK
  case hA => exact ⟨Whole.row (cs := zcells) (by have h9 := heap_alloc_new (w.alloc (.cells #[.int .u8 0, .int .u8 0, .int .u8 0, .int .u8 0, .int .u8 0, .int .u8 0, .int .u8 0, .int .u8 0, .int .u8 0, .int .u8 0, .int .u8 0, .int .u8 0, .int .u8 0, .int .u8 0, .int .u8 0, .int .u8 0, .int .u8 0, .int .u8 0, .int .u8 0, .int .u8 0, .int .u8 0, .int .u8 0, .int .u8 0, .int .u8 0, .int .u8 0, .int .u8 0, .int .u8 0, .int .u8 0, .int .u8 0, .int .u8 0, .int .u8 0, .int .u8 0] 25)) (.cells zcells.toArray 126); unfold Whole; simpa using h9), HH.out.len, HH.out.small, by omega⟩
  case hN => exact HN.out.keep (S := fun _ => False) ((((Keeps.refl _ _).alloc _).alloc _).setRow _ _ (.inl (by omega))) (fun e => e)
  case hK =>
    rintro e w3 ⟨rfl, hha, hk3⟩
    have HHA := Lib.hid hha
    have hk03 : Same w w3 := ((((Keeps.refl (fun _ => False) w).alloc (.cells #[.int .u8 0, .int .u8 0, .int .u8 0, .int .u8 0, .int .u8 0, .int .u8 0, .int .u8 0, .int .u8 0, .int .u8 0, .int .u8 0, .int .u8 0, .int .u8 0, .int .u8 0, .int .u8 0, .int .u8 0, .int .u8 0, .int .u8 0, .int .u8 0, .int .u8 0, .int .u8 0, .int .u8 0, .int .u8 0, .int .u8 0, .int .u8 0, .int .u8 0, .int .u8 0, .int .u8 0, .int .u8 0, .int .u8 0, .int .u8 0, .int .u8 0, .int .u8 0] 25)).alloc (.cells zcells.toArray 126)).setRow (w.heap.size + 1) h.cells.toArray (.inl (by omega))).trans hk3 (fun j hj e => by omega)
    have HK := Lib.hid hk03
    have hr3 : Whole w3 w.heap.size 25 (u8s (List.replicate 32 0)) := by
      have h1 : Whole (((w.alloc (.cells #[.int .u8 0, .int .u8 0, .int .u8 0, .int .u8 0, .int .u8 0, .int .u8 0, .int .u8 0, .int .u8 0, .int .u8 0, .int .u8 0, .int .u8 0, .int .u8 0, .int .u8 0, .int .u8 0, .int .u8 0, .int .u8 0, .int .u8 0, .int .u8 0, .int .u8 0, .int .u8 0, .int .u8 0, .int .u8 0, .int .u8 0, .int .u8 0, .int .u8 0, .int .u8 0, .int .u8 0, .int .u8 0, .int .u8 0, .int .u8 0, .int .u8 0, .int .u8 0] 25)).alloc (.cells zcells.toArray 126)).setRow (w.heap.size + 1) h.cells.toArray) w.heap.size 25 (u8s (List.replicate 32 0)) := by
        have h2 : Whole (w.alloc (.cells #[.int .u8 0, .int .u8 0, .int .u8 0, .int .u8 0, .int .u8 0, .int .u8 0, .int .u8 0, .int .u8 0, .int .u8 0, .int .u8 0, .int .u8 0, .int .u8 0, .int .u8 0, .int .u8 0, .int .u8 0, .int .u8 0, .int .u8 0, .int .u8 0, .int .u8 0, .int .u8 0, .int .u8 0, .int .u8 0, .int .u8 0, .int .u8 0, .int .u8 0, .int .u8 0, .int .u8 0, .int .u8 0, .int .u8 0, .int .u8 0, .int .u8 0, .int .u8 0] 25)) w.heap.size 25 (u8s (List.replicate 32 0)) := heap_alloc_new w _
        exact ((h2.keep ((Keeps.refl (fun _ => False) _).alloc _) (fun e => e))).keep (keeps_setRow _ _ _) (by omega)
      exact h1.keep hk3 (by omega)
    have HR3 := Lib.hid hr3
    have hsz3 : w.heap.size + 1 < w3.heap.size := hha.whole.lt
    clear hk3 hk03 hha hr3
    obtain ⟨f, hf⟩ : ∃ f, finish h = f := ⟨_, rfl⟩
    rw [hf] at HHA
    have HF := Lib.hid hf
    clear hf
    have HWF : Hid (Whole w3 (w.heap.size + 1) 126 (hcells f.s f.ch f.n)) := Lib.hid HHA.out.whole
    have d0 : w3.cell? ⟨w.heap.size + 1, 0, none⟩ = some (.int .u32 (wn f.s.a)) := HWF.out.cell (hcells_word f.s f.ch f.n 0 (by omega))
    have d1 : w3.cell? ⟨w.heap.size + 1, 1, none⟩ = some (.int .u32 (wn f.s.b)) := HWF.out.cell (hcells_word f.s f.ch f.n 1 (by omega))
    have d2 : w3.cell? ⟨w.heap.size + 1, 2, none⟩ = some (.int .u32 (wn f.s.c)) := HWF.out.cell (hcells_word f.s f.ch f.n 2 (by omega))
    have d3 : w3.cell? ⟨w.heap.size + 1, 3, none⟩ = some (.int .u32 (wn f.s.d)) := HWF.out.cell (hcells_word f.s f.ch f.n 3 (by omega))
    have d4 : w3.cell? ⟨w.heap.size + 1, 4, none⟩ = some (.int .u32 (wn f.s.e)) := HWF.out.cell (hcells_word f.s f.ch f.n 4 (by omega))
    have d5 : w3.cell? ⟨w.heap.size + 1, 5, none⟩ = some (.int .u32 (wn f.s.f)) := HWF.out.cell (hcells_word f.s f.ch f.n 5 (by omega))
    have d6 : w3.cell? ⟨w.heap.size + 1, 6, none⟩ = some (.int .u32 (wn f.s.g)) := HWF.out.cell (hcells_word f.s f.ch f.n 6 (by omega))
    have d7 : w3.cell? ⟨w.heap.size + 1, 7, none⟩ = some (.int .u32 (wn f.s.h)) := HWF.out.cell (hcells_word f.s f.ch f.n 7 (by omega))
    have HK4 : Hid (∀ o, Same w (w3.alloc o)) := Lib.hid fun o => HK.out.alloc o
    go_wp2
    clear d0 d1 d2 d3 d4 d5 d6 d7
    go_loopw [5, 6, 7, 14] (fun _ _ _ i wr => ∃ j : Nat, j ≤ 8 ∧ i = .int .i64 j ∧ Whole wr w3.heap.size 25 (u8s (sumTo f.s (4 * j))) ∧ Keeps (fun k => k = w3.heap.size) w3 wr) (fun _ _ _ i _ => 8 - (intOf i).toNat)
    case atStart => exact ⟨0, by omega, rfl, heap_alloc_new w3 _, (Keeps.refl _ _).alloc _⟩
    case round =>
      obtain ⟨j, hj, rfl, hx, hk⟩ := hrel
      obtain ⟨wo, rfl⟩ : ∃ wo : World, wo = wr := ⟨_, rfl⟩
      have HX := Lib.hid hx
      have HKO := Lib.hid hk
      have hwo := hx.lt
      clear hx hk
      by_cases hj8 : j < 8
      · have hidx : ∀ w', (Instr.index 123 (.agg #[.int .u32 (wn f.s.a), .int .u32 (wn f.s.b), .int .u32 (wn f.s.c), .int .u32 (wn f.s.d), .int .u32 (wn f.s.e), .int .u32 (wn f.s.f), .int .u32 (wn f.s.g), .int .u32 (wn f.s.h)]) (.int .i64 (j : Int))).run Tryd.prog w' = .ok (.int .u32 (wn (f.s.list.getD j 0))) w' := by
          intro w'
          rcases (by omega : j = 0 ∨ j = 1 ∨ j = 2 ∨ j = 3 ∨ j = 4 ∨ j = 5 ∨ j = 6 ∨ j = 7) with rfl | rfl | rfl | rfl | rfl | rfl | rfl | rfl <;> rfl
        have HSB : Hid (∀ k, k < 4 → sumByte f.s (4 * j + k) = UInt8.ofNat ((f.s.list.getD j 0).toNat / 256 ^ (3 - k))) := Lib.hid fun k hk => by
          unfold sumByte
          rw [show (4 * j + k) / 4 = j from by omega, show (4 * j + k) % 4 = k from by omega]
        generalize f.s.list.getD j 0 = x at *
        have hj9 : (j : Int) < 8 := by omega
        have hj0 : (0 : Int) ≤ (j : Int) := by omega
        go_wp2
        go_loopw [7, 18] (fun _ i wr => ∃ k : Nat, k ≤ 4 ∧ i = .int .i64 k ∧ Whole wr w3.heap.size 25 (u8s (sumTo f.s (4 * j + k))) ∧ Keeps (fun k => k = w3.heap.size) w3 wr) (fun _ i _ => 4 - (intOf i).toNat)
        case atStart => exact ⟨0, by omega, rfl, HX.out, HKO.out⟩
        case round =>
          clear HX HKO
          obtain ⟨k, hk, rfl, hx, hk2⟩ := hrel
          obtain ⟨wp, rfl⟩ : ∃ wp : World, wp = wr := ⟨_, rfl⟩
          have HX := Lib.hid hx
          have HKO := Lib.hid hk2
          clear hx hk2
          by_cases hk4 : k < 4
          · have cx := HX.out.cell (i := 4 * j + k) (u8s_get _ _ (by rw [sumTo_length _ _ (by omega)]; omega))
            have fx := HX.out.free (4 * j + k)
            have xb := wn_bound x
            have hk9 : (k : Int) < 4 := by omega
            have hb1 : 4 * (j : Int) + (k : Int) < 32 := by omega
            have hb2 : (4 * (j : Int) + (k : Int)).toNat = 4 * j + k := by omega
            have hb3 : (0 : Int) ≤ 24 - 8 * (k : Int) := by omega
            have hb4 : 24 - 8 * (k : Int) < 32 := by omega
            go_wp2
            go_roundw
            case rel =>
              have h9 := HX.out.set (4 * j + k) (.int .u8 ((sumByte f.s (4 * j + k)).toNat : Int))
              rw [← u8s_set, sumTo_succ _ _ (by omega), HSB.out k hk4, ← sum_shift' _ _ hk4] at h9
              have h10 : Keeps (fun k => k = w3.heap.size) w3 (wp.setCell ⟨w3.heap.size, 4 * j + k, none⟩ (.int .u8 (wn x / 2 ^ (24 - 8 * k) % 256))) := HKO.out.setCell _ _ (.inl (Nat.le_refl _))
              first | exact ⟨k + 1, by omega, by go_num, h9, h10⟩ | (repeat apply Exists.intro; exact ⟨⟨k + 1, by omega, by go_num, h9, h10⟩, rfl⟩)
            case measure => simp [intOf]; omega
          · obtain rfl : k = 4 := by omega
            go_wp2
            go_roundw
            case rel =>
              have h9 := HX.out
              rw [show 4 * j + 4 = 4 * (j + 1) from by omega] at h9
              first | exact ⟨j + 1, by omega, by go_num, h9, HKO.out⟩ | (repeat apply Exists.intro; exact ⟨⟨j + 1, by omega, by go_num, h9, HKO.out⟩, rfl⟩)
            case measure => simp [intOf]; omega
      · obtain rfl : j = 8 := by omega
        have hi25 : (Tryd.prog.info? 25).map (·.size) = some (u8s (sumTo f.s (4 * 8))).toArray.size := by
          have e : (u8s (sumTo f.s (4 * 8))).toArray.size = 32 := by rw [List.size_toArray, u8s_length]; exact sumTo_length _ _ (by omega)
          have e2 : (Tryd.prog.info? 25).map (·.size) = some 32 := by kernel_rfl
          rw [e]; exact e2
        have HI25 := Lib.hid hi25
        have hR : Whole wo w.heap.size 25 (u8s (List.replicate 32 0)) := HR3.out.keep HKO.out (by omega)
        have HRR := Lib.hid hR
        have HSZ2 : Hid ((u8s (List.replicate 32 0)).toArray.size = (u8s (sumTo f.s (4 * 8))).toArray.size) := Lib.hid (by
          rw [List.size_toArray, List.size_toArray, u8s_length, u8s_length, sumTo_length _ _ (by omega)]; simp)
        have HEND : Hid (Same w (wo.setRow w.heap.size (u8s (sumTo f.s (4 * 8))).toArray) ∧ Whole (wo.setRow w.heap.size (u8s (sumTo f.s (4 * 8))).toArray) w.heap.size 25 (u8s (sumTo f.s (4 * 8)))) := Lib.hid
          ⟨(HK.out.trans HKO.out (fun j hj e => by omega)).setRow _ _ (.inl (Nat.le_refl _)), hR.row⟩
        clear hi25 hR
        go_wp2_with (first
          | (refine wpList_load_row (by rfl) 25 _ (by rfl) w3.heap.size (by rfl) 25 (u8s (sumTo f.s (4 * 8))).toArray (0, 0) _ HX.out Tryd.underlying25 rfl HI25.out ?_)
          | (refine wpList_store_row (by rfl) 25 _ _ (by rfl) w.heap.size (u8s (sumTo f.s (4 * 8))).toArray (by rfl) (by rfl) 25 (u8s (List.replicate 32 0)).toArray HRR.out HI25.out HSZ2.out (u8s_all _) ?_))
        refine bodyPost_ret (v := .agg (u8s (sumTo f.s (4 * 8))).toArray) (results_cell_row (p := 2) (ty := 25) rfl _ _ w.heap.size 25 _ (0, 0) _ (by rfl) HEND.out.2 Tryd.underlying25 rfl HI25.out) rfl ⟨?_, HEND.out.1⟩
        unfold digest
        rw [HF.out]

end Go.Proofs.YtcbkopjklbiheaaDoor
