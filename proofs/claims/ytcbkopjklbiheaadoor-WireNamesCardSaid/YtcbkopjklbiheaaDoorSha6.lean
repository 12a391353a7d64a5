/- (*Hasher).finish -/
import Derived.Test.YtcbkopjklbiheaaDoorSha5
import Derived.Laws.Tables
namespace Go.Proofs.YtcbkopjklbiheaaDoor
open Go.RowKit
set_option linter.unusedVariables false

theorem byte_at' (n k : Nat) : IntKind.u8.wrap (((n * 8 : Nat) : Int) / 2 ^ (8 * (k : Int)).toNat) = ((UInt8.ofNat (n * 8 / 256 ^ k)).toNat : Int) := by
  have e : (8 * (k : Int)).toNat = 8 * k := by omega
  have h1 : ((2 : Int) ^ (8 * k)) = ((256 ^ k : Nat) : Int) := by
    rw [Nat.pow_mul' 2 8 k |> (fun _ => (show ((2 : Int) ^ (8 * k)) = ((2 ^ (8 * k) : Nat) : Int) from by push_cast; rfl)), Nat.pow_mul]
  have h2 : ∀ z : Int, IntKind.u8.wrap z = z % 256 := fun _ => rfl
  rw [e, h1, h2, UInt8.toNat_ofNat', ← Int.natCast_ediv]
  omega

/-- The end's mark and noughts behind what waits. -/
def endCh (ch : List UInt8) (p : Nat) : List UInt8 := ch.take p ++ [128] ++ List.replicate (63 - p) 0
theorem endCh_length (ch : List UInt8) (p : Nat) (hl : ch.length = 64) (h : p < 64) : (endCh ch p).length = 64 := by
  unfold endCh; rw [List.length_append, List.length_append, List.length_take, List.length_replicate, hl]; simp; omega
/-- The state and the chunk ahead of the number of bits. -/
def fin1 (h : HS) : St × List UInt8 := if 56 ≤ h.n % 64 then (mixed h.s (endCh h.ch (h.n % 64)), List.replicate 64 0) else (h.s, endCh h.ch (h.n % 64))
theorem fin1_length (h : HS) (hl : h.ch.length = 64) : (fin1 h).2.length = 64 := by
  unfold fin1
  split
  · simp
  · exact endCh_length _ _ hl (by omega)
/-- The number of bits, written from the end. -/
def tailCh (ch : List UInt8) (t k : Nat) : List UInt8 := ch.take (64 - k) ++ (be t 8).drop (8 - k)
theorem tailCh_length (ch : List UInt8) (t k : Nat) (hl : ch.length = 64) (h : k ≤ 8) : (tailCh ch t k).length = 64 := by
  unfold tailCh; rw [List.length_append, List.length_take, List.length_drop, be_length, hl]; omega
theorem tailCh_zero (ch : List UInt8) (t : Nat) (hl : ch.length = 64) : tailCh ch t 0 = ch := by
  unfold tailCh
  rw [List.take_of_length_le (by omega), List.drop_of_length_le (by rw [be_length]; omega), List.append_nil]
theorem tailCh_succ (ch : List UInt8) (t k : Nat) (hl : ch.length = 64) (h : k < 8) : (tailCh ch t k).set (63 - k) (UInt8.ofNat (t / 256 ^ k)) = tailCh ch t (k + 1) := by
  unfold tailCh
  have h1 : (ch.take (64 - k)).length = 64 - k := by rw [List.length_take, hl]; omega
  rw [List.set_append_left _ _ (by omega), show 64 - k = (63 - k) + 1 from by omega, List.take_succ_eq_append_getElem (by omega), List.set_append_right _ _ (by rw [List.length_take, hl]; omega)]
  rw [show 63 - k - (ch.take (63 - k)).length = 0 from by rw [List.length_take, hl]; omega, List.set_cons_zero, show 64 - (k + 1) = 63 - k from by omega, List.append_assoc]
  congr 1
  rw [show 8 - (k + 1) = 7 - k from by omega, List.drop_eq_getElem_cons (i := 7 - k) (by rw [be_length]; omega), be_getD _ _ _ (by omega)]
  rw [show 8 - 1 - (7 - k) = k from by omega, show 7 - k + 1 = 8 - k from by omega]
  rfl
def finish (h : HS) : HS := ⟨mixed (fin1 h).1 (tailCh (fin1 h).2 (h.n * 8) 8), tailCh (fin1 h).2 (h.n * 8) 8, h.n⟩

theorem hcells_setbyte (s : St) (ch : List UInt8) (n i : Nat) (b : UInt8) (hl : ch.length = 64) (h : i < 64) : (hcells s ch n).set (8 + i) (.int .u8 (b.toNat : Int)) = hcells s (ch.set i b) n := by
  have h8 : (u32s s.list).length = 8 := rfl
  rw [hcells_def, hcells_def, List.set_append_right _ _ (by omega), h8, Nat.add_sub_cancel_left, List.set_append_left _ _ (by rw [u8s_length]; omega), ← u8s_set]

set_option maxRecDepth 100000 in
set_option maxHeartbeats 12800000 in
theorem finish_any (B : Nat) (h : HS) (w : World) (hh : HasherAt w B h) (hN : Nums w) :
    Calls Tryd.prog 79 #[.pointer (some ⟨B, 0, none⟩)] w fun e w' => e = .returned (.tuple #[]) ∧ HasherAt w' B (finish h) ∧ Keeps (fun k => k = B) w w' := by
  obtain ⟨p, hp⟩ : ∃ p, h.n % 64 = p := ⟨_, rfl⟩
  have hp64 : p < 64 := by omega
  have HN := Lib.hid hN
  have HH := Lib.hid hh
  have HP := Lib.hid hp
  have hs := hh.small
  have hc72 : w.cell? ⟨B, 72, none⟩ = some (.int .u64 (h.n : Int)) := hh.whole.cell (hcells_count _ _ _ hh.len)
  have hcp : w.cell? ⟨B, 8 + p, none⟩ = some (.int .u8 ((h.ch.getD p 0).toNat : Int)) := hh.whole.cell (hcells_byte _ _ _ _ hh.len hp64)
  have hfp := hh.whole.free (8 + p)
  have HW1 : Hid (Whole (w.setCell ⟨B, 8 + p, none⟩ (.int .u8 128)) B 126 (hcells h.s (h.ch.set p 128) h.n)) := Lib.hid (by
    have := hh.whole.set (8 + p) (.int .u8 ((128 : UInt8).toNat : Int))
    rw [HS.cells, hcells_setbyte _ _ _ _ _ hh.len hp64] at this
    exact this)
  obtain ⟨i0, hi0, hz0, _, _⟩ := info_parts (show (Tryd.prog.info? 5).map (fun i => (i.zero, i.size, i.bytes)) = some (some (.int .u8 0), 1, 1) from by kernel_rfl)
  obtain ⟨g, hg⟩ : ∃ g : UInt8, h.ch.getD p 0 = g := ⟨_, rfl⟩
  rw [hg] at hcp
  obtain ⟨w2, hrun, hwz, hw0, hk2⟩ := run_clear_whole (P := Tryd.prog) (w.setCell ⟨B, 8 + p, none⟩ (.int .u8 128)) 26 0 5 i0 B (if p = 63 then 8 else 8 + (p + 1)) (63 - p) (63 - p) _ _ Tryd.underlying26 hi0 hz0 HW1.out (fun h0 => by rw [if_neg (by omega), hcells_length _ _ _ (by rw [List.length_set]; exact hh.len)]; omega)
  have hwh2 : Whole w2 B 126 (hcells h.s (endCh h.ch p) h.n) := by
    by_cases h63 : p = 63
    · have e1 : 63 - p = 0 := by omega
      have e2 : h.ch.set p 128 = endCh h.ch p := by
        unfold endCh
        have := splice_cons h.ch p 128 [] (by rw [hh.len]; exact hp64)
        simp only [List.append_nil, List.length_nil, Nat.add_zero, Nat.zero_add] at this
        rw [List.take_append_drop] at this
        rw [this, e1, List.drop_of_length_le (by rw [hh.len]; omega)]
        rfl
      rw [hw0 e1, ← e2]; exact HW1.out
    · have := hwz (by omega)
      rw [if_neg h63] at this
      have e := hcells_splice h.s (h.ch.set p 128) (List.replicate (63 - p) 0) h.n (p + 1) (by rw [List.length_set]; exact hh.len) (by rw [List.length_replicate]; omega)
      rw [List.length_replicate] at e
      rw [e] at this
      have e2 := splice_cons h.ch p 128 (List.replicate (63 - p) 0) (by rw [hh.len]; exact hp64)
      rw [List.length_replicate] at e2
      rw [e2, List.drop_of_length_le (by rw [hh.len]; omega)] at this
      unfold endCh
      simpa using this
  have HWH2 := Lib.hid hwh2
  have HK2 : Hid (Keeps (fun k => k = B) w w2) := Lib.hid (((Keeps.refl (fun k => k = B) w).setCell _ _ (.inr rfl)).trans hk2 (fun _ _ e => e))
  have HRUN := Lib.hid hrun
  have HECL : Hid ((endCh h.ch p).length = 64) := Lib.hid (endCh_length _ _ hh.len hp64)
  clear hN hh hp hwz hw0 hk2 hrun hwh2 HW1 hg
  have hpI : (0 : Int) ≤ (p : Int) + 1 := by omega
  have hpI2 : (p : Int) + 1 ≤ 64 := by omega
  by_cases h56 : (56 : Int) ≤ (p : Int)
  · by_cases h63 : p = 63
    · subst h63
      have HRUN2 : Hid ((Builtin.clear_ #[26] 0 #[Value.slice (some ⟨B, 8, none⟩) 0 0]).run Tryd.prog (w.setCell ⟨B, 8 + 63, none⟩ (.int .u8 128)) = .ok (.tuple #[]) w2) := Lib.hid (by have := HRUN.out; rwa [if_pos rfl] at this)
      go_enter Tryd.func79, Tryd.ntmps79
      go_wp2_with fail
      ((with_reducible refine (filled_any B h _ HH.out).mono ?_); rintro e w1 ⟨rfl, hw1⟩; replace hw1 := hw1.symm; subst hw1)
      rw [HP.out]
      go_wp2_with (refine wpList_clear_run (by rfl) _ 26 (by rfl) _ _ _ (by rfl) HRUN2.out ?_)
      go_still_tail 6, (by kernel_rfl)
      change wpList _ _ _ _ _ (World.drew w2)
      obtain ⟨wm, hwm⟩ : ∃ wm, World.drew w2 = wm := ⟨_, rfl⟩
      rw [hwm]
      have HWM : Hid (Whole wm B 126 (hcells (h.s) (endCh h.ch 63) h.n)) := Lib.hid (by rw [← hwm]; exact HWH2.out)
      have HKM : Hid (Keeps (fun k => k = B) w wm) := Lib.hid (by rw [← hwm]; exact Keeps.drew HK2.out)
      have HNN : Hid (∀ t, t < 64 → wm.cell? ⟨0, t, none⟩ = some (.int .u32 (wn (roundKs.getD t 0)))) := Lib.hid (HN.out.keep HKM.out (by have := HH.out.pos; omega))
      clear hwm
      go_wp2_with fail
      ((with_reducible refine (mix_any B h.n _ _ _ HWM.out HECL.out HH.out.pos HNN.out).mono ?_); rintro e w5 ⟨rfl, hw5, hk5⟩)
      have HW5 := Lib.hid hw5
      have HK5 : Hid (Keeps (fun k => k = B) w w5) := Lib.hid (HKM.out.trans hk5 (fun _ _ e => e))
      clear hw5 hk5 HWM HKM HNN
      obtain ⟨w7, hrun7, hwz7, _, hk7⟩ := run_clear_whole (P := Tryd.prog) w5 26 0 5 i0 B 8 64 64 _ _ Tryd.underlying26 hi0 hz0 HW5.out (fun _ => by rw [hcells_length _ _ _ HECL.out]; omega)
      obtain ⟨s1, hs1⟩ : ∃ s1, mixed h.s (endCh h.ch 63) = s1 := ⟨_, rfl⟩
      obtain ⟨c2, hc2⟩ : ∃ c2 : List UInt8, List.replicate 64 0 = c2 := ⟨_, rfl⟩
      have HCT : Hid (c2.length = 64) := Lib.hid (by rw [← hc2]; simp)
      have HWT : Hid (Whole w7 B 126 (hcells s1 c2 h.n)) := Lib.hid (by
        have h8 := hwz7 (by omega)
        have e8 := hcells_splice (mixed h.s (endCh h.ch 63)) (endCh h.ch 63) (List.replicate 64 0) h.n 0 HECL.out (by simp)
        simp only [Nat.add_zero, List.length_replicate, List.take_zero, List.nil_append, Nat.zero_add] at e8
        rw [e8, List.drop_of_length_le (by rw [HECL.out]; omega), List.append_nil] at h8
        rw [← hs1, ← hc2]; exact h8)
      have HKT : Hid (Keeps (fun k => k = B) w w7) := Lib.hid (HK5.out.trans hk7 (fun _ _ e => e))
      have HFIN : Hid (fin1 h = (s1, c2)) := Lib.hid (by unfold fin1; rw [HP.out, if_pos (by omega), hs1, hc2])
      have HRUN7 := Lib.hid hrun7
      clear hrun7 hwz7 hk7 hs1 hc2 HW5 HK5
      go_wp2_with (refine wpList_clear_run (by rfl) _ 26 (by rfl) _ _ _ (by rfl) HRUN7.out ?_)
      go_wp2
      go_loopw [4, 36] (fun _ i wr => ∃ k : Nat, k ≤ 8 ∧ i = .int .i64 k ∧ Whole wr B 126 (hcells s1 (tailCh c2 (h.n * 8) k) h.n) ∧ Keeps (fun k => k = B) w wr) (fun _ i _ => 8 - (intOf i).toNat)
      case atStart => exact ⟨0, by omega, rfl, by rw [tailCh_zero _ _ HCT.out]; exact HWT.out, HKT.out⟩
      case round =>
        clear HWT HKT
        obtain ⟨k, hk, rfl, hx, hkw⟩ := hrel
        obtain ⟨wo, rfl⟩ : ∃ wo : World, wo = wr := ⟨_, rfl⟩
        have HX := Lib.hid hx
        have HKW := Lib.hid hkw
        clear hx hkw
        by_cases hk8 : k < 8
        · obtain ⟨gb, hgb⟩ : ∃ gb : UInt8, (tailCh c2 (h.n * 8) k).getD (63 - k) 0 = gb := ⟨_, rfl⟩
          have cx : wo.cell? ⟨B, 8 + (63 - k), none⟩ = some (.int .u8 ((gb.toNat : Nat) : Int)) := by
            rw [← hgb]; exact HX.out.cell (hcells_byte _ _ _ _ (tailCh_length _ _ _ HCT.out hk) (by omega))
          have fx := HX.out.free (8 + (63 - k))
          clear hgb
          have s1' : IntKind.i64.wrap (63 - (k : Int)) = 63 - (k : Int) := IntWalk.i64_in _ (by omega)
          have s2 : IntKind.i64.wrap (8 * (k : Int)) = 8 * (k : Int) := IntWalk.i64_in _ (by omega)
          have s3 : (0 : Int) ≤ 63 - (k : Int) := by omega
          have s4 : 63 - (k : Int) < 64 := by omega
          have s5 : (63 - (k : Int)).toNat = 63 - k := by omega
          have s6 : (0 : Int) ≤ 8 * (k : Int) := by omega
          have s7 : (k : Int) ≤ 63 := by omega
          have s8 : 8 * (k : Int) < 64 := by omega
          have hk9 : (k : Int) < 8 := by omega
          go_wp2
          go_still_tail 11, (by kernel_rfl)
          change wpList _ _ _ _ _ (World.drew wo)
          go_wp2
          go_roundw
          case rel =>
            have h9 := HX.out.set (8 + (63 - k)) (.int .u8 ((UInt8.ofNat (h.n * 8 / 256 ^ k)).toNat : Int))
            rw [hcells_setbyte _ _ _ _ _ (tailCh_length _ _ _ HCT.out hk) (by omega), tailCh_succ _ _ _ HCT.out hk8, ← byte_at'] at h9
            have h10 : Keeps (fun k => k = B) w (World.drew (wo.setCell ⟨B, 8 + (63 - k), none⟩ (.int .u8 (IntKind.u8.wrap (((h.n * 8 : Nat) : Int) / 2 ^ (8 * (k : Int)).toNat))))) := (HKW.out.setCell _ _ (.inr rfl)).drew
            first | exact ⟨k + 1, by omega, by go_num, h9, h10⟩ | (repeat apply Exists.intro; exact ⟨⟨k + 1, by omega, by go_num, h9, h10⟩, rfl⟩)
          case measure => simp [intOf]; omega
        · obtain rfl : k = 8 := by omega
          go_wp2
          go_still_tail 6, (by kernel_rfl)
          change wpList _ _ _ _ _ (World.drew wo)
          obtain ⟨wm, hwm⟩ : ∃ wm, World.drew wo = wm := ⟨_, rfl⟩
          rw [hwm]
          have HWM : Hid (Whole wm B 126 (hcells (s1) (tailCh c2 (h.n * 8) 8) h.n)) := Lib.hid (by rw [← hwm]; exact HX.out)
          have HKM : Hid (Keeps (fun k => k = B) w wm) := Lib.hid (by rw [← hwm]; exact Keeps.drew HKW.out)
          have HNN : Hid (∀ t, t < 64 → wm.cell? ⟨0, t, none⟩ = some (.int .u32 (wn (roundKs.getD t 0)))) := Lib.hid (HN.out.keep HKM.out (by have := HH.out.pos; omega))
          clear hwm
          go_wp2_with fail
          ((with_reducible refine (mix_any B h.n _ _ _ HWM.out (tailCh_length _ _ _ HCT.out (by omega)) HH.out.pos HNN.out).mono ?_); rintro e w6 ⟨rfl, hw5, hk5⟩)
          have HW5 := Lib.hid hw5
          have HK5 : Hid (Keeps (fun k => k = B) w w6) := Lib.hid (HKM.out.trans hk5 (fun _ _ e => e))
          clear hw5 hk5 HWM HKM HNN
          go_wp2
          go_end0
          have HFF : finish h = ⟨mixed s1 (tailCh c2 (h.n * 8) 8), tailCh c2 (h.n * 8) 8, h.n⟩ := by unfold finish; rw [HFIN.out]
          exact ⟨rfl, by rw [HFF]; exact ⟨HW5.out, tailCh_length _ _ _ HCT.out (by omega), HH.out.small, HH.out.pos⟩, HK5.out⟩
    · have hn63 : ¬ 64 = p + 1 := by omega
      rw [if_neg h63] at HRUN
      go_enter Tryd.func79, Tryd.ntmps79
      go_wp2_with fail
      ((with_reducible refine (filled_any B h _ HH.out).mono ?_); rintro e w1 ⟨rfl, hw1⟩; replace hw1 := hw1.symm; subst hw1)
      rw [HP.out]
      go_wp2_with (refine wpList_clear_run (by rfl) _ 26 (by rfl) _ _ _ (by rfl) HRUN.out ?_)
      go_still_tail 6, (by kernel_rfl)
      change wpList _ _ _ _ _ (World.drew w2)
      obtain ⟨wm, hwm⟩ : ∃ wm, World.drew w2 = wm := ⟨_, rfl⟩
      rw [hwm]
      have HWM : Hid (Whole wm B 126 (hcells (h.s) (endCh h.ch p) h.n)) := Lib.hid (by rw [← hwm]; exact HWH2.out)
      have HKM : Hid (Keeps (fun k => k = B) w wm) := Lib.hid (by rw [← hwm]; exact Keeps.drew HK2.out)
      have HNN : Hid (∀ t, t < 64 → wm.cell? ⟨0, t, none⟩ = some (.int .u32 (wn (roundKs.getD t 0)))) := Lib.hid (HN.out.keep HKM.out (by have := HH.out.pos; omega))
      clear hwm
      go_wp2_with fail
      ((with_reducible refine (mix_any B h.n _ _ _ HWM.out HECL.out HH.out.pos HNN.out).mono ?_); rintro e w5 ⟨rfl, hw5, hk5⟩)
      have HW5 := Lib.hid hw5
      have HK5 : Hid (Keeps (fun k => k = B) w w5) := Lib.hid (HKM.out.trans hk5 (fun _ _ e => e))
      clear hw5 hk5 HWM HKM HNN
      obtain ⟨w7, hrun7, hwz7, _, hk7⟩ := run_clear_whole (P := Tryd.prog) w5 26 0 5 i0 B 8 64 64 _ _ Tryd.underlying26 hi0 hz0 HW5.out (fun _ => by rw [hcells_length _ _ _ HECL.out]; omega)
      obtain ⟨s1, hs1⟩ : ∃ s1, mixed h.s (endCh h.ch p) = s1 := ⟨_, rfl⟩
      obtain ⟨c2, hc2⟩ : ∃ c2 : List UInt8, List.replicate 64 0 = c2 := ⟨_, rfl⟩
      have HCT : Hid (c2.length = 64) := Lib.hid (by rw [← hc2]; simp)
      have HWT : Hid (Whole w7 B 126 (hcells s1 c2 h.n)) := Lib.hid (by
        have h8 := hwz7 (by omega)
        have e8 := hcells_splice (mixed h.s (endCh h.ch p)) (endCh h.ch p) (List.replicate 64 0) h.n 0 HECL.out (by simp)
        simp only [Nat.add_zero, List.length_replicate, List.take_zero, List.nil_append, Nat.zero_add] at e8
        rw [e8, List.drop_of_length_le (by rw [HECL.out]; omega), List.append_nil] at h8
        rw [← hs1, ← hc2]; exact h8)
      have HKT : Hid (Keeps (fun k => k = B) w w7) := Lib.hid (HK5.out.trans hk7 (fun _ _ e => e))
      have HFIN : Hid (fin1 h = (s1, c2)) := Lib.hid (by unfold fin1; rw [HP.out, if_pos (by omega), hs1, hc2])
      have HRUN7 := Lib.hid hrun7
      clear hrun7 hwz7 hk7 hs1 hc2 HW5 HK5
      go_wp2_with (refine wpList_clear_run (by rfl) _ 26 (by rfl) _ _ _ (by rfl) HRUN7.out ?_)
      go_wp2
      go_loopw [4, 36] (fun _ i wr => ∃ k : Nat, k ≤ 8 ∧ i = .int .i64 k ∧ Whole wr B 126 (hcells s1 (tailCh c2 (h.n * 8) k) h.n) ∧ Keeps (fun k => k = B) w wr) (fun _ i _ => 8 - (intOf i).toNat)
      case atStart => exact ⟨0, by omega, rfl, by rw [tailCh_zero _ _ HCT.out]; exact HWT.out, HKT.out⟩
      case round =>
        clear HWT HKT
        obtain ⟨k, hk, rfl, hx, hkw⟩ := hrel
        obtain ⟨wo, rfl⟩ : ∃ wo : World, wo = wr := ⟨_, rfl⟩
        have HX := Lib.hid hx
        have HKW := Lib.hid hkw
        clear hx hkw
        by_cases hk8 : k < 8
        · obtain ⟨gb, hgb⟩ : ∃ gb : UInt8, (tailCh c2 (h.n * 8) k).getD (63 - k) 0 = gb := ⟨_, rfl⟩
          have cx : wo.cell? ⟨B, 8 + (63 - k), none⟩ = some (.int .u8 ((gb.toNat : Nat) : Int)) := by
            rw [← hgb]; exact HX.out.cell (hcells_byte _ _ _ _ (tailCh_length _ _ _ HCT.out hk) (by omega))
          have fx := HX.out.free (8 + (63 - k))
          clear hgb
          have s1' : IntKind.i64.wrap (63 - (k : Int)) = 63 - (k : Int) := IntWalk.i64_in _ (by omega)
          have s2 : IntKind.i64.wrap (8 * (k : Int)) = 8 * (k : Int) := IntWalk.i64_in _ (by omega)
          have s3 : (0 : Int) ≤ 63 - (k : Int) := by omega
          have s4 : 63 - (k : Int) < 64 := by omega
          have s5 : (63 - (k : Int)).toNat = 63 - k := by omega
          have s6 : (0 : Int) ≤ 8 * (k : Int) := by omega
          have s7 : (k : Int) ≤ 63 := by omega
          have s8 : 8 * (k : Int) < 64 := by omega
          have hk9 : (k : Int) < 8 := by omega
          go_wp2
          go_still_tail 11, (by kernel_rfl)
          change wpList _ _ _ _ _ (World.drew wo)
          go_wp2
          go_roundw
          case rel =>
            have h9 := HX.out.set (8 + (63 - k)) (.int .u8 ((UInt8.ofNat (h.n * 8 / 256 ^ k)).toNat : Int))
            rw [hcells_setbyte _ _ _ _ _ (tailCh_length _ _ _ HCT.out hk) (by omega), tailCh_succ _ _ _ HCT.out hk8, ← byte_at'] at h9
            have h10 : Keeps (fun k => k = B) w (World.drew (wo.setCell ⟨B, 8 + (63 - k), none⟩ (.int .u8 (IntKind.u8.wrap (((h.n * 8 : Nat) : Int) / 2 ^ (8 * (k : Int)).toNat))))) := (HKW.out.setCell _ _ (.inr rfl)).drew
            first | exact ⟨k + 1, by omega, by go_num, h9, h10⟩ | (repeat apply Exists.intro; exact ⟨⟨k + 1, by omega, by go_num, h9, h10⟩, rfl⟩)
          case measure => simp [intOf]; omega
        · obtain rfl : k = 8 := by omega
          go_wp2
          go_still_tail 6, (by kernel_rfl)
          change wpList _ _ _ _ _ (World.drew wo)
          obtain ⟨wm, hwm⟩ : ∃ wm, World.drew wo = wm := ⟨_, rfl⟩
          rw [hwm]
          have HWM : Hid (Whole wm B 126 (hcells (s1) (tailCh c2 (h.n * 8) 8) h.n)) := Lib.hid (by rw [← hwm]; exact HX.out)
          have HKM : Hid (Keeps (fun k => k = B) w wm) := Lib.hid (by rw [← hwm]; exact Keeps.drew HKW.out)
          have HNN : Hid (∀ t, t < 64 → wm.cell? ⟨0, t, none⟩ = some (.int .u32 (wn (roundKs.getD t 0)))) := Lib.hid (HN.out.keep HKM.out (by have := HH.out.pos; omega))
          clear hwm
          go_wp2_with fail
          ((with_reducible refine (mix_any B h.n _ _ _ HWM.out (tailCh_length _ _ _ HCT.out (by omega)) HH.out.pos HNN.out).mono ?_); rintro e w6 ⟨rfl, hw5, hk5⟩)
          have HW5 := Lib.hid hw5
          have HK5 : Hid (Keeps (fun k => k = B) w w6) := Lib.hid (HKM.out.trans hk5 (fun _ _ e => e))
          clear hw5 hk5 HWM HKM HNN
          go_wp2
          go_end0
          have HFF : finish h = ⟨mixed s1 (tailCh c2 (h.n * 8) 8), tailCh c2 (h.n * 8) 8, h.n⟩ := by unfold finish; rw [HFIN.out]
          exact ⟨rfl, by rw [HFF]; exact ⟨HW5.out, tailCh_length _ _ _ HCT.out (by omega), HH.out.small, HH.out.pos⟩, HK5.out⟩
  · have h63 : ¬ p = 63 := by omega
    have hn63 : ¬ 64 = p + 1 := by omega
    rw [if_neg h63] at HRUN
    go_enter Tryd.func79, Tryd.ntmps79
    go_wp2_with fail
    ((with_reducible refine (filled_any B h _ HH.out).mono ?_); rintro e w1 ⟨rfl, hw1⟩; replace hw1 := hw1.symm; subst hw1)
    rw [HP.out]
    obtain ⟨s1, hs1⟩ : ∃ s1, h.s = s1 := ⟨_, rfl⟩
    obtain ⟨c2, hc2⟩ : ∃ c2 : List UInt8, endCh h.ch p = c2 := ⟨_, rfl⟩
    have HCT : Hid (c2.length = 64) := Lib.hid (by rw [← hc2]; exact HECL.out)
    have HWT : Hid (Whole w2 B 126 (hcells s1 c2 h.n)) := Lib.hid (by rw [← hs1, ← hc2]; exact HWH2.out)
    have HKT := HK2
    have HFIN : Hid (fin1 h = (s1, c2)) := Lib.hid (by unfold fin1; rw [HP.out, if_neg (by omega), hs1, hc2])
    clear hs1 hc2
    go_wp2_with (refine wpList_clear_run (by rfl) _ 26 (by rfl) _ _ _ (by rfl) HRUN.out ?_)
    go_wp2
    go_loopw [4, 36] (fun _ i wr => ∃ k : Nat, k ≤ 8 ∧ i = .int .i64 k ∧ Whole wr B 126 (hcells s1 (tailCh c2 (h.n * 8) k) h.n) ∧ Keeps (fun k => k = B) w wr) (fun _ i _ => 8 - (intOf i).toNat)
    case atStart => exact ⟨0, by omega, rfl, by rw [tailCh_zero _ _ HCT.out]; exact HWT.out, HKT.out⟩
    case round =>
      clear HWT HKT
      obtain ⟨k, hk, rfl, hx, hkw⟩ := hrel
      obtain ⟨wo, rfl⟩ : ∃ wo : World, wo = wr := ⟨_, rfl⟩
      have HX := Lib.hid hx
      have HKW := Lib.hid hkw
      clear hx hkw
      by_cases hk8 : k < 8
      · obtain ⟨gb, hgb⟩ : ∃ gb : UInt8, (tailCh c2 (h.n * 8) k).getD (63 - k) 0 = gb := ⟨_, rfl⟩
        have cx : wo.cell? ⟨B, 8 + (63 - k), none⟩ = some (.int .u8 ((gb.toNat : Nat) : Int)) := by
          rw [← hgb]; exact HX.out.cell (hcells_byte _ _ _ _ (tailCh_length _ _ _ HCT.out hk) (by omega))
        have fx := HX.out.free (8 + (63 - k))
        clear hgb
        have s1' : IntKind.i64.wrap (63 - (k : Int)) = 63 - (k : Int) := IntWalk.i64_in _ (by omega)
        have s2 : IntKind.i64.wrap (8 * (k : Int)) = 8 * (k : Int) := IntWalk.i64_in _ (by omega)
        have s3 : (0 : Int) ≤ 63 - (k : Int) := by omega
        have s4 : 63 - (k : Int) < 64 := by omega
        have s5 : (63 - (k : Int)).toNat = 63 - k := by omega
        have s6 : (0 : Int) ≤ 8 * (k : Int) := by omega
        have s7 : (k : Int) ≤ 63 := by omega
        have s8 : 8 * (k : Int) < 64 := by omega
        have hk9 : (k : Int) < 8 := by omega
        go_wp2
        go_still_tail 11, (by kernel_rfl)
        change wpList _ _ _ _ _ (World.drew wo)
        go_wp2
        go_roundw
        case rel =>
          have h9 := HX.out.set (8 + (63 - k)) (.int .u8 ((UInt8.ofNat (h.n * 8 / 256 ^ k)).toNat : Int))
          rw [hcells_setbyte _ _ _ _ _ (tailCh_length _ _ _ HCT.out hk) (by omega), tailCh_succ _ _ _ HCT.out hk8, ← byte_at'] at h9
          have h10 : Keeps (fun k => k = B) w (World.drew (wo.setCell ⟨B, 8 + (63 - k), none⟩ (.int .u8 (IntKind.u8.wrap (((h.n * 8 : Nat) : Int) / 2 ^ (8 * (k : Int)).toNat))))) := (HKW.out.setCell _ _ (.inr rfl)).drew
          first | exact ⟨k + 1, by omega, by go_num, h9, h10⟩ | (repeat apply Exists.intro; exact ⟨⟨k + 1, by omega, by go_num, h9, h10⟩, rfl⟩)
        case measure => simp [intOf]; omega
      · obtain rfl : k = 8 := by omega
        go_wp2
        go_still_tail 6, (by kernel_rfl)
        change wpList _ _ _ _ _ (World.drew wo)
        obtain ⟨wm, hwm⟩ : ∃ wm, World.drew wo = wm := ⟨_, rfl⟩
        rw [hwm]
        have HWM : Hid (Whole wm B 126 (hcells (s1) (tailCh c2 (h.n * 8) 8) h.n)) := Lib.hid (by rw [← hwm]; exact HX.out)
        have HKM : Hid (Keeps (fun k => k = B) w wm) := Lib.hid (by rw [← hwm]; exact Keeps.drew HKW.out)
        have HNN : Hid (∀ t, t < 64 → wm.cell? ⟨0, t, none⟩ = some (.int .u32 (wn (roundKs.getD t 0)))) := Lib.hid (HN.out.keep HKM.out (by have := HH.out.pos; omega))
        clear hwm
        go_wp2_with fail
        ((with_reducible refine (mix_any B h.n _ _ _ HWM.out (tailCh_length _ _ _ HCT.out (by omega)) HH.out.pos HNN.out).mono ?_); rintro e w6 ⟨rfl, hw5, hk5⟩)
        have HW5 := Lib.hid hw5
        have HK5 : Hid (Keeps (fun k => k = B) w w6) := Lib.hid (HKM.out.trans hk5 (fun _ _ e => e))
        clear hw5 hk5 HWM HKM HNN
        go_wp2
        go_end0
        have HFF : finish h = ⟨mixed s1 (tailCh c2 (h.n * 8) 8), tailCh c2 (h.n * 8) 8, h.n⟩ := by unfold finish; rw [HFIN.out]
        exact ⟨rfl, by rw [HFF]; exact ⟨HW5.out, tailCh_length _ _ _ HCT.out (by omega), HH.out.small, HH.out.pos⟩, HK5.out⟩

end Go.Proofs.YtcbkopjklbiheaaDoor
