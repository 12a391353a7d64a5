/- slices.Grow of nil, slices.Concat, bytes.Equal; what fill does. -/
import Derived.Test.YtiddnhnfpggomaaDoorPack3
import Derived.Test.YtiddnhnfpggomaaDoorRows2
import Derived.Test.YtiddnhnfpggomaaDoorRefNum
import Derived.Test.YtiddnhnfpggomaaDoorSec0
import Derived.Lib.AppendZeros
namespace Go.Proofs.YtiddnhnfpggomaaDoor
open Go.RowKit
set_option linter.unusedVariables false

set_option maxRecDepth 100000 in
set_option maxHeartbeats 3200000 in
theorem grow_nil (n : Nat) (N : Int) (hN : N = (n : Int)) (h0 : 0 < n) (hn : n ≤ 140737488351232) (w : World) :
    Calls Tryd.prog 45 #[.slice none 0 0, .int .i64 N] w fun e w' => ∃ g cap, e = .returned (.slice (some ⟨g, 0, none⟩) 0 cap) ∧ w'.ownsRow w.heap.size 5 1 (.slice (some ⟨g, 0, none⟩) 0 cap) 0 [] ∧ Same w w' ∧ n ≤ cap := by
  subst hN
  obtain ⟨i0, hi0, hz0, hz1, hz2⟩ := info_parts (show (Tryd.prog.info? 5).map (fun i => (i.zero, i.size, i.bytes)) = some (some (.int .u8 0), 1, 1) from by kernel_rfl)
  have happ := Lib.run_append_nil_zeros (P := Tryd.prog) w 22 3 22 5 i0 (.int .u8 0) .i64 .i64 Tryd.underlying22 Tryd.underlying3 hi0 hz0 n h0 (by omega) (by omega) (by rw [hz2]; omega)
  have hge := grownCap_ge w n 0 5
  have hle := grownCap_le_maxLen w n 0 5 (by unfold maxLen; omega)
  generalize grownCap w n 0 5 = cap at happ hge hle
  have hcs : (Builtin.zeroCells (Value.int .u8 0).cells n ++ Builtin.zeroCells (Value.int .u8 0).cells (cap - n)).size = cap := by simp [size_zeroCells, Value.cells]; omega
  generalize Builtin.zeroCells (Value.int .u8 0).cells n ++ Builtin.zeroCells (Value.int .u8 0).cells (cap - n) = Z at happ hcs
  have q0 : (0 : Int) < (n : Int) := by omega
  have qn : ¬ (n : Int) < 0 := by omega
  go_enter Tryd.func45, Tryd.ntmps45
  go_wp2_with (at_builtin; refine Lib.wpList_append_run _ rfl _ _ _ _ rfl _ _ rfl rfl _ _ happ ?_)
  go_ret
  refine ⟨w.heap.size, cap, rfl, ⟨by simp, .inr ⟨w.heap.size, cap, Z, rfl, Nat.le_refl _, ?_, by omega, hle, by omega, by simp⟩⟩, ((Keeps.refl _ _).drew).alloc _, hge⟩
  exact heap_alloc_new w.drew _

set_option maxRecDepth 100000 in
set_option maxHeartbeats 3200000 in
theorem bytesEqual_any (ao bo : Option Addr) (a b : List UInt8) (c d : Nat) (w : World) (ha : Bytes w (.slice ao a.length c) a) (hb : Bytes w (.slice bo b.length d) b)
    (hsa : ∀ x, ao = some x → a ≠ [] → x.spot = none) (hsb : ∀ x, bo = some x → b ≠ [] → x.spot = none) :
    Calls Tryd.prog 26 #[.slice ao a.length c, .slice bo b.length d] w fun e w' => e = .returned (.bool (decide (a = b))) ∧ w' = w := by
  have k1 : (convert 22 9 (.slice ao a.length c)).run Tryd.prog w = .ok (.string ⟨a.toArray⟩) w := run_string' ha hsa _ _ _ Tryd.underlying22 Tryd.underlying5 Tryd.underlying9
  have k2 : (convert 22 9 (.slice bo b.length d)).run Tryd.prog w = .ok (.string ⟨b.toArray⟩) w := run_string' hb hsb _ _ _ Tryd.underlying22 Tryd.underlying5 Tryd.underlying9
  go_enter Tryd.func26, Tryd.ntmps26
  go_wp2
  go_ret
  refine ⟨?_, rfl⟩
  rw [show (a == b) = decide (a = b) from by rw [Bool.eq_iff_iff]; simp]
  rfl

def catB (rs : List (Value × List UInt8)) : List UInt8 := rs.flatMap (·.2)
theorem catB_succ (rs : List (Value × List UInt8)) (k : Nat) (h : k < rs.length) : catB (rs.take (k + 1)) = catB (rs.take k) ++ rs[k].2 := by
  unfold catB
  rw [List.take_succ_eq_append_getElem h, List.flatMap_append]
  simp
theorem catB_le (rs : List (Value × List UInt8)) (k : Nat) : (catB (rs.take k)).length ≤ (catB rs).length := by
  have h := List.take_append_drop k rs
  have : catB rs = catB (rs.take k) ++ catB (rs.drop k) := by
    unfold catB
    rw [← List.flatMap_append, h]
  rw [this]; simp

set_option maxRecDepth 100000 in
set_option maxHeartbeats 6400000 in
theorem concat_any (ao : Option Addr) (N c : Nat) (rs : List (Value × List UInt8)) (w : World) (hr : Rows2 w (.slice ao N c) rs) (hn : rs.length = N) (hNN : N ≤ 1000000) (h0 : 0 < (catB rs).length) (hl : (catB rs).length ≤ 140737488351232) :
    Calls Tryd.prog 35 #[.slice ao N c] w fun e w' => ∃ g cap, e = .returned (.slice (some ⟨g, 0, none⟩) (catB rs).length cap) ∧ w'.ownsRow w.heap.size 5 1 (.slice (some ⟨g, 0, none⟩) (catB rs).length cap) (catB rs).length (u8s (catB rs)) ∧ Same w w' := by
  obtain ⟨i0, hi0, hz0, hz1, hz2⟩ := info_parts (show (Tryd.prog.info? 5).map (fun i => (i.zero, i.size, i.bytes)) = some (some (.int .u8 0), 1, 1) from by kernel_rfl)
  have HR := Lib.hid hr
  have HRL := Lib.hid hn
  have HL := Lib.hid hl
  have H0 := Lib.hid h0
  have hcN : rs.take N = rs := List.take_of_length_le (by omega)
  have HCN := Lib.hid hcN
  clear hr hn hl h0 hcN
  go_enter Tryd.func35, Tryd.ntmps35
  go_wp2
  go_loopw [3, 5, 11] (fun x _ i wr => ∃ k : Nat, k ≤ N ∧ i = .int .i64 k ∧ (∃ X : Nat, X = (catB (rs.take k)).length ∧ x = .int .i64 X) ∧ wr = w) (fun _ _ i _ => N - (intOf i).toNat)
  case atStart => exact ⟨0, by omega, rfl, ⟨0, by simp [catB], rfl⟩, rfl⟩
  case round =>
    obtain ⟨k, hk, rfl, ⟨X, hX, rfl⟩, rfl⟩ := hrel
    obtain ⟨w0, rfl⟩ : ∃ w0 : World, w0 = wr := ⟨_, rfl⟩
    have HX := Lib.hid hX
    clear hX
    by_cases hlt : k < N
    · have hjr : k < rs.length := by have := HRL.out; omega
      obtain ⟨a, xo, xc, rfl, -, hcell, -⟩ := HR.out.at hjr
      have hcs := catB_succ rs k hjr
      have hle := catB_le rs (k + 1)
      rw [hcs, List.length_append] at hle
      have hX2 : (X : Int) + (rs[k].2.length : Int) ≤ 140737488351232 := by have := HL.out; have := HX.out; omega
      have HCS : Hid (X + rs[k].2.length = (catB (rs.take (k + 1))).length) := Lib.hid (by rw [hcs, List.length_append, ← HX.out])
      clear hcs hle
      have hjn : (k : Int) < (N : Int) := by omega
      have hj0 : (0 : Int) ≤ (k : Int) := by omega
      generalize rs[k].2 = p at *
      have qn : ¬ ((X : Int) + (p.length : Int) < 0) := by omega
      go_wp2
      go_roundw
      case rel => exact ⟨k + 1, by omega, by go_num, ⟨X + p.length, HCS.out, by first | trivial | rfl | simp⟩, by first | trivial | rfl⟩
      case measure => simp [intOf]; omega
    · have hks : k = N := by omega
      subst hks
      have HX2 : X = (catB rs).length := by rw [HX.out, HCN.out]
      have hX0 : 0 < X := by rw [HX2]; exact H0.out
      have hXl : X ≤ 140737488351232 := by rw [HX2]; exact HL.out
      have HXX := Lib.hid HX2
      clear HX2
      go_wp2_with fail
      ((with_reducible refine (grow_nil X _ rfl hX0 hXl _).mono ?_); rintro e w1 ⟨g0, c0, rfl, ho1, hk1, -⟩)
      have HO1 := Lib.hid ho1
      have HK1 := Lib.hid hk1
      have hbase : w0.heap.size ≤ w1.heap.size := hk1.size
      clear ho1 hk1
      go_wp2
      go_loopw [6, 8, 27] (fun x _ i wv => ∃ (j g cp : Nat) (al : List UInt8), j ≤ k ∧ i = .int .i64 j ∧ al = catB (rs.take j) ∧ x = .slice (some ⟨g, 0, none⟩) al.length cp ∧ wv.ownsRow w0.heap.size 5 1 (.slice (some ⟨g, 0, none⟩) al.length cp) al.length (u8s al) ∧ Same w0 wv) (fun _ _ i _ => k - (intOf i).toNat)
      case atStart => exact ⟨0, g0, c0, [], by omega, rfl, by simp [catB], rfl, HO1.out, HK1.out⟩
      case round =>
        obtain ⟨j, g, cp, al, hj, rfl, hal, rfl, ho, hk⟩ := hrel
        have HAL := Lib.hid hal
        have HO := Lib.hid ho
        have HK := Lib.hid hk
        have hwr : w0.heap.size ≤ wr.heap.size := hk.size
        clear ho hk hal
        by_cases hlt : j < k
        · have hjr : j < rs.length := by have := HRL.out; omega
          obtain ⟨a, xo, xc, rfl, -, hcell0, hby0⟩ := HR.out.at hjr
          have hcell : wr.cell? (a.add j) = some (.slice xo rs[j].2.length xc) := by
            have hlt := World.block_lt_of_cell? w0 _ hcell0
            rw [World.cell?_of_block (w := w0) (HK.out.block _ hlt (fun e => e))]
            exact hcell0
          have hcs := catB_succ rs j hjr
          have hle := catB_le rs (j + 1)
          rw [hcs, List.length_append, ← HAL.out] at hle
          have hX2 : al.length + rs[j].2.length ≤ 140737488351232 := by have := HL.out; omega
          have HCS : Hid (al ++ rs[j].2 = catB (rs.take (j + 1))) := Lib.hid (by rw [hcs, ← HAL.out])
          have HB : Hid (Bytes wr (.slice xo rs[j].2.length xc) rs[j].2) := Lib.hid (hby0.same HK.out)
          clear hcs hle hby0 hcell0
          have hjn : (j : Int) < (k : Int) := by omega
          have hj0 : (0 : Int) ≤ (j : Int) := by omega
          generalize rs[j].2 = p at *
          go_wp2_with (at_builtin; refine wpList_append_bytes (by rfl) _ _ 22 5 i0 (by rfl) Tryd.underlying22 hi0 hz0 hz1 hz2 w0.heap.size g cp al p _ (by rfl) (by rfl) HO.out HB.out (by omega) (by omega) ?_)
          intro g2 c2 w5 ho5 hg5 hat5
          have hgg := (HO.out.lt g rfl).1
          have hk5 : Same w0 w5 := HK.out.grown hg5 (fun q e hq => by simp only [Option.some.injEq] at e; omega)
          go_wp2
          go_roundw
          case rel => exact ⟨j + 1, g2, c2, al ++ p, by omega, by go_num, HCS.out, by simp, by rw [List.length_append]; exact ho5, hk5⟩
          case measure => simp [intOf]; omega
        · have hks : j = k := by omega
          subst hks
          have hac : al = catB rs := by rw [HAL.out, HCN.out]
          subst hac
          go_wp2
          go_ret
          exact ⟨g, cp, rfl, HO.out, HK.out⟩

set_option maxRecDepth 100000 in
set_option maxHeartbeats 6400000 in
theorem fill_any (B base : Nat) (row : Option Nat) (bs : List UInt8) (w : World) (hp : Pen 48 5 w B base row bs) (hl : bs.length ≤ 512) :
    Calls Tryd.prog 21 #[.pointer (some ⟨B, 0, none⟩)] w fun e w' => ∃ g cap, e = .returned (.slice (some ⟨g, 0, none⟩) 512 cap) ∧ w'.ownsRow w.heap.size 5 1 (.slice (some ⟨g, 0, none⟩) 512 cap) 512 (u8s (padB bs)) ∧ Same w w' := by
  obtain ⟨i0, hi0, hz0, hz1, hz2⟩ := info_parts (show (Tryd.prog.info? 5).map (fun i => (i.zero, i.size, i.bytes)) = some (some (.int .u8 0), 1, 1) from by kernel_rfl)
  go_enter Tryd.func21, Tryd.ntmps21
  go_wp2_with fail
  ((with_reducible refine (data_any B base row bs _ hp (by omega)).mono ?_); rintro e w1 ⟨v, rfl, ho1, hk1⟩)
  obtain ⟨ao, c, rfl⟩ := (Bytes.of_own ho1).form
  have HO1 := Lib.hid ho1
  have HK1 := Lib.hid hk1
  obtain ⟨m, hm⟩ : ∃ m : Nat, (512 : Int) - (bs.length : Int) = (m : Int) := Int.eq_ofNat_of_zero_le (by omega)
  have hm2 : m ≤ 512 := by omega
  have HM : Hid (bs.length + m = 512) := Lib.hid (by omega)
  clear ho1 hk1 hp
  go_wp2_with (at_make; refine wpList_make_full _ rfl _ _ 22 rfl w1.heap.size 5 i0 _ 1 Tryd.underlying22 hi0 hz0 hz1 _ _ _ _ m (by rfl) (by rfl) rfl rfl (by rw [hz2]; omega) (by unfold maxLen; omega) (Nat.le_refl _) ?_)
  intro w2 ho2 hg2
  rw [show (madeCells #[Value.int .u8 0] m).toList = u8s (List.replicate m 0) from made_u8 m] at ho2
  have hk2 : Same w1 w2 := (Keeps.refl _ _).grown hg2 (fun k e _ => by simp at e)
  have HO2 := Lib.hid ho2
  have HK2 := Lib.hid hk2
  clear ho2 hg2 hk2
  go_wp2_with fail
  have hr : Rows2 (w2.alloc (.cells #[.slice ao bs.length c, .slice (some ⟨w1.heap.size, 0, none⟩) m m] 22)) (.slice (some ⟨w2.heap.size, 0, none⟩) 2 2) [(.slice ao bs.length c, bs), (.slice (some ⟨w1.heap.size, 0, none⟩) m m, List.replicate m 0)] := by
    refine .inl ⟨⟨w2.heap.size, 0, none⟩, 2, rfl, fun j r hj => ?_⟩
    have hnew := heap_alloc_new w2 (.cells #[.slice ao bs.length c, .slice (some ⟨w1.heap.size, 0, none⟩) m m] 22)
    match j, hj with
    | 0, hj =>
      simp only [List.getElem?_cons_zero, Option.some.injEq] at hj
      subst hj
      exact ⟨by rw [add_at]; exact Whole.cell (cs := [.slice ao bs.length c, .slice (some ⟨w1.heap.size, 0, none⟩) m m]) hnew (i := 0) rfl, (Bytes.of_own HO1.out).same (HK2.out.alloc _)⟩
    | 1, hj =>
      simp only [List.getElem?_cons_succ, List.getElem?_cons_zero, Option.some.injEq] at hj
      subst hj
      exact ⟨by rw [add_at]; exact Whole.cell (cs := [.slice ao bs.length c, .slice (some ⟨w1.heap.size, 0, none⟩) m m]) hnew (i := 1) rfl, (Bytes.of_own' HO2.out (by simp)).same ((Keeps.refl _ _).alloc _)⟩
    | j + 2, hj => simp at hj
  have hcat : catB [(.slice ao bs.length c, bs), (.slice (some ⟨w1.heap.size, 0, none⟩) m m, List.replicate m 0)] = padB bs := by
    simp only [catB, padB, List.flatMap_cons, List.flatMap_nil, List.append_nil]
    rw [show 512 - bs.length = m from by have := HM.out; omega]
  have hcl : (catB [(.slice ao bs.length c, bs), (.slice (some ⟨w1.heap.size, 0, none⟩) m m, List.replicate m 0)]).length = 512 := by rw [hcat]; exact padB_length bs hl
  have hcc := concat_any _ 2 2 _ _ hr rfl (by omega) (by rw [hcl]; omega) (by rw [hcl]; omega)
  rw [hcl, hcat] at hcc
  ((with_reducible refine hcc.mono ?_); rintro e w3 ⟨g, cap, rfl, ho3, hk3⟩)
  have HK3 : Hid (Same w w3) := Lib.hid (((HK1.out.trans HK2.out (fun _ _ e => e)).alloc _).trans hk3 (fun _ _ e => e))
  have hs1 := HK1.out.size
  have hs2 := HK2.out.size
  have HO3 : Hid (w3.ownsRow w.heap.size 5 1 (.slice (some ⟨g, 0, none⟩) 512 cap) 512 (u8s (padB bs))) := Lib.hid (own_base ho3 (by simp; omega))
  clear hcc hcl hcat hr ho3 hk3
  go_wp2
  go_ret
  exact ⟨g, cap, rfl, HO3.out, HK3.out⟩

end Go.Proofs.YtiddnhnfpggomaaDoor
