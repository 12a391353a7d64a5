/- What numbers and sector.Super do. -/
import Derived.Test.YtiddnhnfpggomaaDoorSec2
import Derived.Test.YtiddnhnfpggomaaDoorSha8
import Derived.Test.YtiddnhnfpggomaaDoorZero32
namespace Go.Proofs.YtiddnhnfpggomaaDoor
open Go.RowKit
set_option linter.unusedVariables false

def ptrs5 (B : Nat) : List Value := [.pointer (some ⟨B, 0, none⟩), .pointer (some ⟨B, 1, none⟩), .pointer (some ⟨B, 2, none⟩), .pointer (some ⟨B, 3, none⟩), .pointer (some ⟨B, 4, none⟩)]
theorem ptrs5_get (B k : Nat) (h : k < 5) : (ptrs5 B)[k]? = some (.pointer (some ⟨B, k, none⟩)) := by
  match k, h with
  | 0, _ => rfl
  | 1, _ => rfl
  | 2, _ => rfl
  | 3, _ => rfl
  | 4, _ => rfl

set_option maxRecDepth 100000 in
set_option maxHeartbeats 3200000 in
theorem numbers_any (B : Nat) (w : World) :
    Calls Tryd.prog 27 #[.pointer (some ⟨B, 0, none⟩)] w fun e w' => ∃ R, e = .returned (.slice (some ⟨R, 0, none⟩) 5 5) ∧ Whole w' R 61 (ptrs5 B) ∧ Same w w' ∧ w.heap.size ≤ R := by
  go_enter Tryd.func27, Tryd.ntmps27
  go_wp2
  go_region
  go_wp2
  go_ret
  exact ⟨w.heap.size, rfl, heap_alloc_new w _, ((Keeps.refl _ _).alloc _).drew, Nat.le_refl _⟩

def Sup.nums (s : Sup) : List Nat := [s.seq, s.view, s.normal, s.gen, s.commit]
def Sup.flat (s : Sup) (k : Nat) : List UInt8 := (s.nums.take k).flatMap fun n => be n 8
theorem flat_succ (s : Sup) (k : Nat) (h : k < 5) : s.flat k ++ be (s.nums.getD k 0) 8 = s.flat (k + 1) := by
  match k, h with
  | 0, _ => simp [Sup.flat, Sup.nums]
  | 1, _ => simp [Sup.flat, Sup.nums]
  | 2, _ => simp [Sup.flat, Sup.nums]
  | 3, _ => simp [Sup.flat, Sup.nums]
  | 4, _ => simp [Sup.flat, Sup.nums]
theorem flat_length (s : Sup) (k : Nat) (h : k ≤ 5) : (s.flat k).length = 8 * k := by
  match k, h with
  | 0, _ => simp [Sup.flat, Sup.nums]
  | 1, _ => simp [Sup.flat, Sup.nums, be_length]
  | 2, _ => simp [Sup.flat, Sup.nums, be_length]
  | 3, _ => simp [Sup.flat, Sup.nums, be_length]
  | 4, _ => simp [Sup.flat, Sup.nums, be_length]
  | 5, _ => simp [Sup.flat, Sup.nums, be_length]
theorem flat_all (s : Sup) : 83 :: (s.flat 5 ++ s.head) = supT s := by simp [Sup.flat, Sup.nums, supT]
theorem nums_cell (s : Sup) (k : Nat) (h : k < 5) : s.cells[k]? = some (.int .u64 (s.nums.getD k 0 : Nat)) := by
  match k, h with
  | 0, _ => rfl
  | 1, _ => rfl
  | 2, _ => rfl
  | 3, _ => rfl
  | 4, _ => rfl
theorem nums_lt (s : Sup) (hs : s.Ok) (k : Nat) (h : k < 5) : s.nums.getD k 0 < 256 ^ 8 := by
  have e : (256 : Nat) ^ 8 = 18446744073709551616 := by decide
  rw [e]
  match k, h with
  | 0, _ => exact hs.seq
  | 1, _ => exact hs.view
  | 2, _ => exact hs.normal
  | 3, _ => exact hs.gen
  | 4, _ => exact hs.commit
/-- The array in a struct that lies whole. -/
theorem head_bytes {w : World} {B : Nat} {t : TypeId} {s : Sup} (h : Whole w B t s.cells) (hs : s.head.length = 32) (c : Nat) : Bytes w (.slice (some ⟨B, 5, none⟩) 32 c) s.head := by
  rw [← hs]
  refine .inl ⟨_, c, rfl, fun j u hu => ?_⟩
  rw [add_at]
  refine h.cell ?_
  unfold Sup.cells
  rw [List.getElem?_append_right (by simp)]
  simpa using hu

set_option maxRecDepth 100000 in
set_option maxHeartbeats 12800000 in
theorem super_any (s : Sup) (hs : s.Ok) (w : World) (hN : Nums w) :
    Calls Tryd.prog 13 #[.agg s.cells.toArray] w fun e w' => ∃ g cap, e = .returned (.slice (some ⟨g, 0, none⟩) 512 cap) ∧ w'.ownsRow w.heap.size 5 1 (.slice (some ⟨g, 0, none⟩) 512 cap) 512 (u8s (superB s)) ∧ Same w w' := by
  have hz32 := Tryd.zero32
  have HN := Lib.hid hN
  have HS := Lib.hid hs
  have HBB : Hid (Whole (w.alloc (.cells s.cells.toArray 34)) w.heap.size 34 s.cells) := Lib.hid (heap_alloc_new w _)
  have HP : Hid (PenW (w.alloc (.cells s.cells.toArray 34)) ((w.alloc (.cells s.cells.toArray 34)).alloc (.cells #[.slice none 0 0] 48)) (w.heap.size + 1) []) :=
    Lib.hid (by have h := PenW.mk' (w.alloc (.cells s.cells.toArray 34)); rwa [World.size_alloc] at h)
  clear hN hs
  go_enter Tryd.func13, Tryd.ntmps13
  go_wp2_with fail
  ((with_reducible refine (uint_w (w.heap.size + 1) [] 83 1 _ _ _ HP.out (by simp) (by omega) (by omega) (by omega) (by omega) (by omega)).mono ?_); rintro e w1 ⟨rfl, hp1⟩)
  rw [show [] ++ be 83 1 = [83] from by decide] at hp1
  have hk01 : Same w w1 := ((Keeps.refl _ _).alloc _).trans hp1.same (fun _ _ e => e)
  have hb1 : Whole w1 w.heap.size 34 s.cells := HBB.out.keep hp1.same (fun e => e)
  obtain ⟨base, row, hpen⟩ := hp1.ex
  have hbl : w.heap.size + 1 < base := hpen.lt
  have hrow := hpen.row_lt
  have HPEN := Lib.hid hpen
  have HROW := Lib.hid hrow
  have HB1 := Lib.hid hb1
  have HK01 := Lib.hid hk01
  have HP1 := Lib.hid hp1
  clear hp1 hk01 hb1 HP HBB hpen hrow
  go_wp2_with fail
  ((with_reducible refine (numbers_any w.heap.size _).mono ?_); rintro e w2 ⟨R, rfl, hr2, hk2, hR⟩)
  have hs12 := hk2.size
  have hRl := hr2.lt
  have hs1 := HP1.out.lt
  have HR2 := Lib.hid hr2
  have HB2 : Hid (Whole w2 w.heap.size 34 s.cells) := Lib.hid (HB1.out.keep hk2 (fun e => e))
  have HPEN2 : Hid (Pen 48 5 w2 (w.heap.size + 1) base row [83]) := Lib.hid (HPEN.out.keeps hk2 (fun e => e) (fun _ _ e => e))
  have HROW2 : Hid (∀ j, row = some j → base ≤ j ∧ j < w1.heap.size) := Lib.hid HROW.out
  have HP2 : Hid (PenW (w.alloc (.cells s.cells.toArray 34)) w2 (w.heap.size + 1) [83]) := Lib.hid (HP1.out.same' hk2)
  clear hr2 hk2 HP1 HPEN HROW HB1 HK01
  go_wp2
  go_loopw [5, 13] (fun _ i wr => ∃ k : Nat, k ≤ 5 ∧ i = .int .i64 k ∧ Step 48 5 w2 wr (w.heap.size + 1) base row [83] (s.flat k)) (fun _ i _ => 5 - (intOf i).toNat)
  case atStart => exact ⟨0, by omega, rfl, Step.nothing HPEN2.out (Keeps.refl _ _)⟩
  case round =>
    obtain ⟨k, hk, rfl, hst⟩ := hrel
    have HST := Lib.hid hst
    obtain ⟨row', hp', hk', hm'⟩ := hst.ex
    have HPP := Lib.hid hp'
    have HKK := Lib.hid hk'
    have HMM := Lib.hid hm'
    have hne1 : ¬ PenSet (w.heap.size + 1) row w.heap.size := notPen (by omega) (fun e => by have := (HROW2.out _ e).1; omega)
    have hne2 : ¬ PenSet (w.heap.size + 1) row R := notPen (by omega) (fun e => by have := (HROW2.out _ e).2; omega)
    have HB3 : Hid (Whole wr w.heap.size 34 s.cells) := Lib.hid (HB2.out.keep hk' hne1)
    have HR3 : Hid (Whole wr R 61 (ptrs5 w.heap.size)) := Lib.hid (HR2.out.keep hk' hne2)
    clear hst hp' hk' hm' hne1 hne2
    by_cases hlt : k < 5
    · have hc1 : wr.cell? ⟨R, k, none⟩ = some (.pointer (some ⟨w.heap.size, k, none⟩)) := HR3.out.cell (ptrs5_get _ _ hlt)
      have hc2 : wr.cell? ⟨w.heap.size, k, none⟩ = some (.int .u64 (s.nums.getD k 0 : Nat)) := HB3.out.cell (nums_cell s k hlt)
      have hfl := flat_length s k (by omega)
      have HLT := Lib.hid (nums_lt s HS.out k hlt)
      have hj : (k : Int) < 5 := by omega
      have hj0 : (0 : Int) ≤ (k : Int) := by omega
      generalize hx : s.nums.getD k 0 = x at *
      have HX := Lib.hid hx
      clear hx
      go_wp2_with fail
      ((with_reducible refine (uint_ok' (w.heap.size + 1) base row' ([83] ++ s.flat k) x 8 _ _ _ HPP.out (by simp; omega) (by omega) (by omega) HLT.out (by omega) (by omega)).mono ?_); rintro e w4 ⟨rfl, hs4⟩)
      have hst4 : Step 48 5 w2 w4 (w.heap.size + 1) base row [83] (s.flat (k + 1)) := Step.cont HKK.out HMM.out hs4 rfl (by rw [← HX.out]; exact flat_succ s k hlt)
      clear hs4 hc1 hc2
      go_wp2
      go_roundw
      case rel => exact ⟨k + 1, by omega, by go_num, hst4⟩
      case measure => simp [intOf]; omega
    · have hk5 : k = 5 := by omega
      subst hk5
      have HP5 : Hid (PenW (w.alloc (.cells s.cells.toArray 34)) wr (w.heap.size + 1) ([83] ++ s.flat 5)) := Lib.hid (PenW.step HPEN2.out HP2.out.same HP2.out.new HST.out)
      have hhb := head_bytes HB3.out HS.out.head 32
      have HHB := Lib.hid hhb
      have hhl := HS.out.head
      have hfl := flat_length s 5 (by omega)
      clear hhb
      go_wp2_with fail
      ((with_reducible refine (raw_w (w.heap.size + 1) _ s.head _ _ HP5.out HHB.out (by simp; omega)).mono ?_); rintro e w6 ⟨rfl, hp6⟩)
      rw [show [83] ++ s.flat 5 ++ s.head = supT s from by rw [← flat_all]; simp] at hp6
      have HP6 := Lib.hid hp6
      have htl := supT_length s HS.out
      clear hp6 HHB
      go_wp2_with fail
      ((with_reducible refine (data_w (w.heap.size + 1) _ _ HP6.out (by omega)).mono ?_); rintro e w7 ⟨v, rfl, ho7, hk7⟩)
      rw [htl] at ho7
      obtain ⟨g7, c7, rfl⟩ : ∃ g7 c7, v = .slice (some ⟨g7, 0, none⟩) 73 c7 := by
        rcases ho7.2 with ⟨_, h0⟩ | ⟨g, cp, cur, h, _⟩
        · omega
        · exact ⟨g, cp, h⟩
      have HO7 := Lib.hid ho7
      have HC7 := Lib.hid (own_cap ho7)
      have HP7 := Lib.hid (HP6.out.same' hk7)
      have HN7 : Hid (Nums w7) := Lib.hid (HN.out.keep (((Keeps.refl _ _).alloc _).trans (HP6.out.same' hk7).same (fun _ _ e => e)) (fun e => e))
      clear ho7 hk7 HP6
      go_wp2_with fail
      ((with_reducible refine (shaSum_any _ 73 c7 (supT s) _ (Bytes.of_own' HO7.out htl) htl HC7.out.1 HC7.out.2 (by omega) HN7.out).mono ?_); rintro e w8 ⟨rfl, hk8⟩)
      have HP8 := Lib.hid (HP7.out.same' hk8)
      clear hk8 HP7 HO7 HC7
      obtain ⟨w9, hw9⟩ : ∃ w9, (w8.alloc (.cells z32.toArray 32)).setRow w8.heap.size (u8s (shaOf (supT s))).toArray = w9 := ⟨_, rfl⟩
      have HW9 := Lib.hid hw9
      have HN9 : Hid ((w8.alloc (.cells z32.toArray 32)).heap[w8.heap.size]? = some (.cells z32.toArray 32 (0, 0))) := Lib.hid (heap_alloc_new w8 _)
      have HI9 := Lib.hid (Tryd.sizeHash (shaOf (supT s)) (shaOf_length _))
      have HZ9 : Hid (z32.toArray.size = (u8s (shaOf (supT s))).toArray.size) := Lib.hid (size32 (List.replicate 32 0) (shaOf (supT s)) (by simp) (shaOf_length _))
      have hsl : (shaOf (supT s)).length = 32 := shaOf_length _
      have HX9 : Hid (Bytes w9 (.slice (some ⟨w8.heap.size, 0, none⟩) 32 32) (shaOf (supT s))) := Lib.hid (by
        rw [← hw9]
        exact Bytes.of_block (Whole.row (cs := z32) (heap_alloc_new w8 _)) (by simp) 32 32 hsl.symm)
      have HP9 : Hid (PenW (w.alloc (.cells s.cells.toArray 34)) w9 (w.heap.size + 1) (supT s)) := Lib.hid (by
        rw [← hw9]
        exact HP8.out.keep (S := fun k => k = w8.heap.size) (((Keeps.refl _ _).alloc _).setRow _ _ (.inr rfl)) (fun j e => by omega))
      clear hw9
      go_wp2_with (first
        | (refine wpList_store_row (by rfl) 32 _ _ (by rfl) w8.heap.size (u8s (shaOf (supT s))).toArray (by rfl) (by rfl) 32 z32.toArray HN9.out HI9.out HZ9.out (u8s_all _) ?_; rw [HW9.out]))
      ((with_reducible refine (raw_w (w.heap.size + 1) _ (shaOf (supT s)) _ _ HP9.out HX9.out (by omega)).mono ?_); rintro e w10 ⟨rfl, hp10⟩)
      have HP10 := Lib.hid hp10
      clear hp10 HX9 HP9
      go_wp2_with fail
      obtain ⟨base', row', hp⟩ := HP10.out.ex
      have hf := fill_any (w.heap.size + 1) base' row' (supT s ++ shaOf (supT s)) w10 hp (by rw [List.length_append]; omega)
      ((with_reducible refine hf.mono ?_); rintro e w11 ⟨g, cap, rfl, ho11, hk11⟩)
      have HO11 : Hid (w11.ownsRow w.heap.size 5 1 (.slice (some ⟨g, 0, none⟩) 512 cap) 512 (u8s (superB s))) := Lib.hid (own_base ho11 (by have := HP10.out.same.size; simp at this; omega))
      have HK11 : Hid (Same w w11) := Lib.hid ((((Keeps.refl _ _).alloc _).trans HP10.out.same (fun _ _ e => e)).trans hk11 (fun _ _ e => e))
      clear hf hp ho11 hk11
      go_wp2
      go_ret
      exact ⟨g, cap, rfl, HO11.out, HK11.out⟩

end Go.Proofs.YtiddnhnfpggomaaDoor
