/- The document's own number, Super. -/
import Derived.Test.YtiddnhnfpggomaaDoorSecR1
import Derived.Test.YtiddnhnfpggomaaDoorHashEq
import Derived.Test.YtiddnhnfpggomaaDoorRef02
import Derived.Test.YtiddnhnfpggomaaDoorSha19
namespace Go.Proofs.YtiddnhnfpggomaaDoor
open Go.RowKit
set_option linter.unusedVariables false

set_option maxRecDepth 100000 in
set_option maxHeartbeats 3200000 in
theorem rnumber_any (a : Addr) (c : Nat) (bs : List UInt8) (k : Nat) (K : Int) (w : World) (hx : Bytes w (.slice (some a) 512 c) bs) (hl : bs.length = 512) (hc : 512 ≤ c) (hk : k < 5) (hK : K = (k : Int)) :
    Calls Tryd.prog 33 #[.slice (some a) 512 c, .int .i64 K] w fun e w' => e = .returned (.int .u64 (beVal ((bs.drop (1 + 8 * k)).take 8) : Nat)) ∧ w' = w := by
  subst hK
  have hcut := Bytes.cut (by rw [hl]; exact hx) (1 + 8 * k) 8 (c - (1 + 8 * k)) (by omega) (by omega : bs.length ≤ c)
  rw [if_neg (by omega)] at hcut
  have e8 : 9 + 8 * k - (1 + 8 * k) = 8 := by omega
  simp only [Option.map_some] at hcut
  have HCUT : Hid (Bytes w (.slice (some (a.add (1 + 8 * k))) (9 + 8 * k - (1 + 8 * k)) (c - (1 + 8 * k))) ((bs.drop (1 + 8 * k)).take 8)) := Lib.hid (by rw [e8]; exact hcut)
  have HLN : Hid (((bs.drop (1 + 8 * k)).take 8).length = 9 + 8 * k - (1 + 8 * k)) := Lib.hid (by simp; omega)
  have q1 : ¬ c = 1 + 8 * k := by omega
  have q2 : (k : Int) < 5 := by omega
  clear hcut e8 hx
  go_enter Tryd.func33, Tryd.ntmps33
  go_wp2_with fail
  ((with_reducible refine (number_any _ (9 + 8 * k - (1 + 8 * k)) _ _ _ HCUT.out HLN.out (by omega)).mono ?_); rintro e w1 ⟨rfl, h1⟩)
  subst h1
  go_wp2
  go_ret
  exact ⟨rfl, rfl⟩

def numCells (ns : List Nat) : List Value := ns.map fun n => Value.int .u64 ((n : Nat) : Int)
set_option maxRecDepth 100000 in
set_option maxHeartbeats 12800000 in
theorem rsuper_any (s : Sup) (hs : s.Ok) (w : World) :
    Calls Tryd.prog 16 #[.agg s.cells.toArray] w fun e w' => ∃ g, e = .returned (.slice (some ⟨g, 0, none⟩) 512 512) ∧ w'.ownsRow w.heap.size 5 1 (.slice (some ⟨g, 0, none⟩) 512 512) 512 (u8s (superB s)) ∧ Same w w' := by
  obtain ⟨i0, hi0, hz0, hz1, hz2⟩ := info_parts (show (Tryd.prog.info? 5).map (fun i => (i.zero, i.size, i.bytes)) = some (some (.int .u8 0), 1, 1) from by kernel_rfl)
  have hz32 := Tryd.zero32
  have HS := Lib.hid hs
  obtain ⟨wb, hwb⟩ : ∃ wb, w.alloc (.cells s.cells.toArray 34) = wb := ⟨_, rfl⟩
  have hBB : Whole wb w.heap.size 34 s.cells := by rw [← hwb]; exact heap_alloc_new w _
  have hkb : Same w wb := by rw [← hwb]; exact (Keeps.refl _ _).alloc _
  have hsb : wb.heap.size = w.heap.size + 1 := by rw [← hwb]; simp
  have hBC : Whole (wb.alloc (.cells #[.int .u8 83] 5)) w.heap.size 34 s.cells := hBB.keep ((Keeps.refl (fun _ => False) _).alloc _) (fun e => e)
  have m0 := hBC.cell (nums_cell s 0 (by omega))
  have m1 := hBC.cell (nums_cell s 1 (by omega))
  have m2 := hBC.cell (nums_cell s 2 (by omega))
  have m3 := hBC.cell (nums_cell s 3 (by omega))
  have m4 := hBC.cell (nums_cell s 4 (by omega))
  obtain ⟨x0, hx0⟩ : ∃ x, s.nums.getD 0 0 = x := ⟨_, rfl⟩
  obtain ⟨x1, hx1⟩ : ∃ x, s.nums.getD 1 0 = x := ⟨_, rfl⟩
  obtain ⟨x2, hx2⟩ : ∃ x, s.nums.getD 2 0 = x := ⟨_, rfl⟩
  obtain ⟨x3, hx3⟩ : ∃ x, s.nums.getD 3 0 = x := ⟨_, rfl⟩
  obtain ⟨x4, hx4⟩ : ∃ x, s.nums.getD 4 0 = x := ⟨_, rfl⟩
  rw [hx0] at m0
  rw [hx1] at m1
  rw [hx2] at m2
  rw [hx3] at m3
  rw [hx4] at m4
  have HXS : Hid (s.nums = [x0, x1, x2, x3, x4]) := Lib.hid (by rw [← hx0, ← hx1, ← hx2, ← hx3, ← hx4]; rfl)
  have HBB := Lib.hid hBB
  have HKB := Lib.hid hkb
  have HSB := Lib.hid hsb
  clear hBB hBC hkb hsb hx0 hx1 hx2 hx3 hx4 hs
  obtain ⟨w2, hw2⟩ : ∃ w2, (wb.alloc (.cells #[.int .u8 83] 5)).alloc (.cells #[.int .u64 (x0 : Nat), .int .u64 (x1 : Nat), .int .u64 (x2 : Nat), .int .u64 (x3 : Nat), .int .u64 (x4 : Nat)] 67) = w2 := ⟨_, rfl⟩
  have HO : Hid (w2.ownsRow wb.heap.size 5 1 (.slice (some ⟨wb.heap.size, 0, none⟩) 1 1) 1 (u8s [83])) := Lib.hid (by
    rw [← hw2]
    exact own_keeps ((Keeps.refl (fun _ => False) _).alloc _) (own_lit wb 5 (u8s [83]) 1 rfl (by omega)) (fun _ _ e => e))
  have HA : Hid (Whole w2 (wb.heap.size + 1) 67 (numCells s.nums)) := Lib.hid (by
    rw [← hw2, HXS.out]
    exact heap_alloc2_new wb _ _)
  have HB : Hid (Whole w2 w.heap.size 34 s.cells) := Lib.hid (by
    rw [← hw2]
    exact HBB.out.keep (((Keeps.refl (fun _ => False) _).alloc _).alloc _) (fun e => e))
  have HK : Hid (Same w w2) := Lib.hid (by
    rw [← hw2]
    exact (HKB.out.alloc _).alloc _)
  have HW2 := Lib.hid hw2
  clear hw2
  go_enter Tryd.func16, Tryd.ntmps16
  go_wp2
  rw [HW2.out]
  clear m0 m1 m2 m3 m4 HW2
  have hsb2 : w.heap.size < wb.heap.size := by have := HSB.out; omega
  go_loopw [3, 5, 6, 7] (fun o i _ _ wr => ∃ (k g c : Nat) (al : List UInt8), k ≤ 5 ∧ i = .int .i64 k ∧ o = .slice (some ⟨g, 0, none⟩) al.length c ∧ al = 83 :: s.flat k ∧ g ≠ wb.heap.size + 1 ∧ wr.ownsRow wb.heap.size 5 1 (.slice (some ⟨g, 0, none⟩) al.length c) al.length (u8s al) ∧
    Whole wr (wb.heap.size + 1) 67 (numCells s.nums) ∧ Whole wr w.heap.size 34 s.cells ∧ Same w wr) (fun _ i _ _ _ => 5 - (intOf i).toNat)
  case atStart => exact ⟨0, wb.heap.size, 1, [83], by omega, rfl, rfl, rfl, by omega, HO.out, HA.out, HB.out, HK.out⟩
  case round =>
    obtain ⟨k, g, c, al, hk, rfl, rfl, hal, hga, ho, ha, hb, hkk⟩ := hrel
    obtain ⟨wo, rfl⟩ : ∃ wo : World, wo = wr := ⟨_, rfl⟩
    have HAL := Lib.hid hal
    have HO1 := Lib.hid ho
    have HA1 := Lib.hid ha
    have HB1 := Lib.hid hb
    have HK1 := Lib.hid hkk
    have hgl := ho.lt g rfl
    have hfl := flat_length s k hk
    have hll : al.length = 1 + 8 * k := by rw [hal]; simp; omega
    have HLL := Lib.hid hll
    have hal1 := ha.lt
    clear ho ha hb hkk hal hfl hll HO HA HB HK
    by_cases hlt : k < 5
    · have hc1 : wo.cell? ⟨wb.heap.size + 1, k, none⟩ = some (.int .u64 (s.nums.getD k 0 : Nat)) := HA1.out.cell (by
        unfold numCells
        have h5 : k < s.nums.length := hlt
        simp [h5])
      have HLT := Lib.hid (nums_lt s HS.out k hlt)
      have hj : (k : Int) < 5 := by omega
      have hj0 : (0 : Int) ≤ (k : Int) := by omega
      obtain ⟨x, hx⟩ : ∃ x, s.nums.getD k 0 = x := ⟨_, rfl⟩
      rw [hx] at hc1 HLT
      have HX := Lib.hid hx
      clear hx
      go_wp2_with fail
      ((with_reducible refine (ref_uint_any' x 8 (x : Int) 8 (by omega) (by omega) _ (by have := HLT.out; omega) rfl rfl).mono ?_); rintro e w4 ⟨hk4, ⟨_, g4, c4, rfl, ho4⟩ | ⟨hno, _⟩⟩)
      case inr => exact absurd HLT.out hno
      have HB4 : Hid (Bytes w4 (.slice (some ⟨g4, 0, none⟩) 8 c4) (be x 8)) := Lib.hid (Bytes.of_own' ho4 (be_length _ _))
      have HO4 : Hid (w4.ownsRow wb.heap.size 5 1 (.slice (some ⟨g, 0, none⟩) al.length c) al.length (u8s al)) := Lib.hid (own_keeps hk4 HO1.out (fun _ _ e => e))
      have HA4 := Lib.hid (HA1.out.keep hk4 (fun e => e))
      have HBB4 := Lib.hid (HB1.out.keep hk4 (fun e => e))
      have HK4 : Hid (Same w w4) := Lib.hid (HK1.out.trans hk4 (fun _ _ e => e))
      have hs4 := hk4.size
      have HB8 := Lib.hid (be_length x 8)
      clear hk4 ho4 hc1
      go_wp2_with (at_builtin; refine wpList_append_bytes (by rfl) _ _ 22 5 i0 (by rfl) Tryd.underlying22 hi0 hz0 hz1 hz2 wb.heap.size g c al (be x 8) _ (by rfl) (by rfl) HO4.out HB4.out (by rw [HLL.out, HB8.out]; omega) (by omega) ?_)
      intro g5 c5 w5 ho5 hg5 hat5
      rw [← List.length_append] at ho5
      have hkg : Keeps (fun k => k = g) w4 w5 := (Keeps.refl (fun k => k = g) w4).grown hg5 (fun k e _ => by simp only [Option.some.injEq] at e; exact e.symm)
      have hgg := (HO4.out.lt g rfl).1
      have hga5 : g5 ≠ wb.heap.size + 1 := by
        have := HA4.out.lt
        rcases hat5 with rfl | rfl <;> omega
      have HA5 := Lib.hid (HA4.out.keep hkg (by omega))
      have HBB5 := Lib.hid (HBB4.out.keep hkg (by omega))
      have HK5 : Hid (Same w w5) := Lib.hid (HK4.out.trans hkg (fun j hj e => by omega))
      have hcat : al ++ be x 8 = 83 :: s.flat (k + 1) := by rw [HAL.out, ← flat_succ s k hlt, HX.out]; rfl
      have HCAT := Lib.hid hcat
      have HO5 := Lib.hid ho5
      clear ho5 hg5 hkg hcat
      go_wp2
      go_roundw
      case rel => exact ⟨k + 1, g5, c5, al ++ be x 8, by omega, by go_num, by rw [List.length_append], HCAT.out, hga5, HO5.out, HA5.out, HBB5.out, HK5.out⟩
      case measure => simp [intOf]; omega
    · have hk5 : k = 5 := by omega
      subst hk5
      have HHB := Lib.hid (head_bytes HB1.out HS.out.head 32)
      have hcat : al ++ s.head = supT s := by rw [HAL.out, ← flat_all]; rfl
      have HHL := Lib.hid HS.out.head
      have HCAT := Lib.hid hcat
      clear hcat
      go_wp2_with (at_builtin; refine wpList_append_bytes (by rfl) _ _ 22 5 i0 (by rfl) Tryd.underlying22 hi0 hz0 hz1 hz2 wb.heap.size g c al s.head _ (by rfl) (by rfl) HO1.out HHB.out (by rw [HLL.out, HHL.out]; omega) (by omega) ?_)
      intro g6 c6 w6 ho6 hg6 hat6
      rw [← List.length_append, HCAT.out] at ho6
      rw [← List.length_append, HCAT.out]
      have hk6 : Same w w6 := HK1.out.grown hg6 (fun k e hk => by simp only [Option.some.injEq] at e; omega)
      have htl := supT_length s HS.out
      rw [htl] at ho6 ⊢
      have HO6 := Lib.hid ho6
      have HK6 := Lib.hid hk6
      have HTL := Lib.hid htl
      have hgl6 := ho6.lt g6 rfl
      clear ho6 hg6 hat6 hk6 HHB HO1 HA1 HB1 HK1 htl
      go_wp2_with fail
      ((with_reducible refine (rsum_any _ 73 c6 (supT s) _ (Bytes.of_own' HO6.out HTL.out) HTL.out (by omega)).mono ?_); rintro e w8 ⟨rfl, hk8⟩)
      rw [show digest (feed hs0 (supT s)) = shaOf (supT s) from rfl]
      have HO8 : Hid (w8.ownsRow wb.heap.size 5 1 (.slice (some ⟨g6, 0, none⟩) 73 c6) 73 (u8s (supT s))) := Lib.hid (own_keeps hk8 HO6.out (fun _ _ e => e))
      have HK8 : Hid (Same w w8) := Lib.hid (HK6.out.trans hk8 (fun _ _ e => e))
      have hs8 := hk8.size
      clear hk8 HO6 HK6
      obtain ⟨w9, hw9⟩ : ∃ w9, (w8.alloc (.cells z32.toArray 32)).setRow w8.heap.size (u8s (shaOf (supT s))).toArray = w9 := ⟨_, rfl⟩
      have HW9 := Lib.hid hw9
      have HN9 : Hid ((w8.alloc (.cells z32.toArray 32)).heap[w8.heap.size]? = some (.cells z32.toArray 32 (0, 0))) := Lib.hid (heap_alloc_new w8 _)
      have HI9 := Lib.hid (Tryd.sizeHash (shaOf (supT s)) (shaOf_length _))
      have HZ9 : Hid (z32.toArray.size = (u8s (shaOf (supT s))).toArray.size) := Lib.hid (size32 (List.replicate 32 0) (shaOf (supT s)) (by simp) (shaOf_length _))
      have hsl : (shaOf (supT s)).length = 32 := shaOf_length _
      have HX9 : Hid (Bytes w9 (.slice (some ⟨w8.heap.size, 0, none⟩) 32 32) (shaOf (supT s))) := Lib.hid (by
        rw [← hw9]
        exact Bytes.of_block (Whole.row (cs := z32) (heap_alloc_new w8 _)) (by simp) 32 32 hsl.symm)
      have hk89 : Same w8 w9 := by rw [← hw9]; exact ((Keeps.refl _ _).alloc _).setRow _ _ (.inl (Nat.le_refl _))
      have HO9 : Hid (w9.ownsRow wb.heap.size 5 1 (.slice (some ⟨g6, 0, none⟩) (supT s).length c6) (supT s).length (u8s (supT s))) := Lib.hid (by rw [HTL.out]; exact own_keeps hk89 HO8.out (fun _ _ e => e))
      have HK9 : Hid (Same w w9) := Lib.hid (HK8.out.trans hk89 (fun _ _ e => e))
      have hs9 := hk89.size
      have HSL := Lib.hid hsl
      clear hw9 hk89 HO8 HK8 hsl
      go_wp2_with (first
        | (refine wpList_store_row (by rfl) 32 _ _ (by rfl) w8.heap.size (u8s (shaOf (supT s))).toArray (by rfl) (by rfl) 32 z32.toArray HN9.out HI9.out HZ9.out (u8s_all _) ?_; rw [HW9.out])
        | (at_builtin; refine wpList_append_bytes (by rfl) _ _ 22 5 i0 (by rfl) Tryd.underlying22 hi0 hz0 hz1 hz2 wb.heap.size g6 c6 (supT s) (shaOf (supT s)) _ (by rw [HTL.out]; rfl) (by rfl) HO9.out HX9.out (by rw [HTL.out, HSL.out]; omega) (by omega) ?_))
      intro g10 c10 w10 ho10 hg10 hat10
      rw [← List.length_append] at ho10
      rw [← List.length_append]
      have hk10 : Same w w10 := HK9.out.grown hg10 (fun k e hk => by simp only [Option.some.injEq] at e; omega)
      have HB10 := Lib.hid (Bytes.of_own ho10)
      have HK10 := Lib.hid hk10
      have HL10 : Hid ((supT s ++ shaOf (supT s)).length ≤ 512) := Lib.hid (by rw [List.length_append, HTL.out, HSL.out]; omega)
      clear ho10 hg10 hat10 hk10 HO9 HK9 HX9 HN9 HI9 HZ9 HW9
      obtain ⟨body, hbody⟩ : ∃ body, supT s ++ shaOf (supT s) = body := ⟨_, rfl⟩
      rw [hbody] at HB10 HL10 ⊢
      have HBODY := Lib.hid hbody
      clear hbody
      go_wp2_with fail
      ((with_reducible refine (spad_any _ c10 body _ HB10.out HL10.out).mono ?_); rintro e w11 ⟨rfl, ho11, hk11⟩)
      have HO11 : Hid (w11.ownsRow w.heap.size 5 1 (.slice (some ⟨w10.heap.size, 0, none⟩) 512 512) 512 (u8s (superB s))) := Lib.hid (by
        have h := own_base ho11 HK10.out.size
        rw [← HBODY.out] at h
        exact h)
      have HK11 : Hid (Same w w11) := Lib.hid (HK10.out.trans hk11 (fun _ _ e => e))
      clear ho11 hk11
      go_wp2
      go_ret
      exact ⟨_, rfl, HO11.out, HK11.out⟩

end Go.Proofs.YtiddnhnfpggomaaDoor
