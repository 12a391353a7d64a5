/- The walk of NetFirst. -/
import Derived.Test.YtafgiljgefeefaaDoorNt4
namespace Go.Proofs.YtafgiljgefeefaaDoor
open Go.RowKit Go.ChangeShapes
set_option linter.unusedVariables false

/-- A slice of numbers. -/
def U64s (w : World) (x : Value) (zs : List Nat) : Prop :=
  (∃ a c, x = .slice (some a) zs.length c ∧ ∀ (j z : Nat), zs[j]? = some z → w.cell? (a.add j) = some (.int .u64 (z : Int))) ∨ (∃ c, x = .slice none 0 c ∧ zs = [])
theorem U64s.at {w : World} {ao : Option Addr} {n c : Nat} {zs : List Nat} (h : U64s w (.slice ao n c) zs) {j : Nat} (hj : j < zs.length) : ∃ a, ao = some a ∧ ∀ w', Same w w' → w'.cell? (a.add j) = some (.int .u64 (zs[j] : Int)) := by
  rcases h with ⟨a, c', e, h⟩ | ⟨c', e, h⟩
  · simp only [Value.slice.injEq] at e
    refine ⟨a, e.1, fun w' k => ?_⟩
    have h1 := h j zs[j] (List.getElem?_eq_getElem hj)
    rw [World.cell?_of_block (w := w) (k.block _ (World.block_lt_of_cell? w _ h1) (fun e => e))]
    exact h1
  · subst h; simp at hj
section
variable {H : Type} {enc : TypeId × Value → H} {P : Program}
theorem open_u64s {W : World} {base : Nat} {t e : TypeId} {v : Value} {d : DataW H} {ps : List MemPlace} (ht : P.underlying t = some (.slice e)) (he : P.underlying e = some (.int .u64)) (hc : P.cellsOf e = 1)
    (hok : Value.okWide P W .any base t v) (h : DataW.Trod enc P W 0 (fun _ => true) true t v d ps) :
    ∃ zs ao cap, v = .slice ao zs.length cap ∧ U64s W v zs ∧ (∀ z ∈ zs, z < 18446744073709551616) := by
  obtain ⟨a0, len, cap, rfl⟩ := Go.WideShapes.okWide_slice ht hok
  obtain ⟨fuel, hf⟩ := h
  have hf' : DataW.trod enc P W 0 (fun _ => true) true fuel t [.slice a0 len cap] = some (d, ps) := by simpa [Value.cells] using hf
  rcases open_ints ht he hc hf' with ⟨hcs, hx⟩ | ⟨a, len, cap, zs, hcs, _, hl, hm, hz, hx, hcell, hwz⟩
  · simp only [List.cons.injEq, and_true, Value.slice.injEq] at hcs
    obtain ⟨rfl, rfl, rfl⟩ := hcs
    exact ⟨[], none, 0, rfl, .inr ⟨0, rfl, rfl⟩, by simp⟩
  · simp only [List.cons.injEq, and_true] at hcs
    rw [hcs]
    simp only [if_true] at hz
    have hlen : ((zs.take len).map Int.toNat).length = len := by simp; omega
    refine ⟨(zs.take len).map Int.toNat, some a, cap, by rw [hlen], .inl ⟨a, cap, by rw [hlen], fun j u hu => ?_⟩, fun z hz2 => ?_⟩
    · have hj : j < len := by
        have := (List.getElem?_eq_some_iff.1 hu).1
        rw [hlen] at this; exact this
      have hjz : j < zs.length := by omega
      rw [hcell j hjz]
      have hb := bounds_u64 (hwz zs[j] (List.getElem_mem hjz))
      have e2 : ((zs.take len).map Int.toNat)[j]? = some zs[j].toNat := by simp [hj, hjz]
      rw [e2] at hu
      rw [List.getD_eq_getElem?_getD, List.getElem?_eq_getElem hjz, Option.getD_some, ← Option.some.inj hu]
      rw [Int.toNat_of_nonneg hb.1]
    · obtain ⟨y, hy, rfl⟩ := List.mem_map.1 hz2
      have hb := bounds_u64 (hwz y (List.mem_of_mem_take hy))
      omega
end

set_option maxRecDepth 100000 in
set_option maxHeartbeats 12800000 in
theorem first_any (ao : Option Addr) (c : Nat) (zs : List Nat) (w : World) (hx : U64s w (.slice ao zs.length c) zs) (hz : ∀ z ∈ zs, z < 18446744073709551616) (hN : Nums w) :
    Calls Tryd.prog 5 #[.slice ao zs.length c] w fun e w' => e = .returned (.bool true) ∧ Same w w' := by
  have HZM := Lib.hid Tryd.zeroMsgW
  have HX := Lib.hid hx
  have HZS := Lib.hid hz
  have HNUM := Lib.hid hN
  obtain ⟨L, hL⟩ : ∃ L, zs.length = L := ⟨_, rfl⟩
  rw [hL]
  rw [hL] at HX
  have HL := Lib.hid hL
  clear hx hz hN hL
  go_enter Tryd.func5, Tryd.ntmps5
  go_wp2_with fail
  ((with_reducible refine (speaks24 _ HNUM.out).mono ?_); rintro e w1 ⟨rfl, hk1⟩)
  have HK1 := Lib.hid hk1
  have HNUM1 : Hid (Nums w1) := Lib.hid (HNUM.out.keep hk1 (fun e => e))
  clear hk1
  go_wp2_with fail
  ((with_reducible refine (netNew_any _).mono ?_); rintro e w2 ⟨rfl, hn2, hk2⟩)
  have HN2 := Lib.hid hn2
  have HK2 : Hid (Same w w2) := Lib.hid (HK1.out.trans hk2 (fun _ _ e => e))
  obtain ⟨N, hN⟩ : ∃ N, w1.heap.size = N := ⟨_, rfl⟩
  rw [hN] at HN2 ⊢
  clear hn2 hk2 hN
  by_cases hbig : 300 < L
  · have hbi : (300 : Int) < (L : Int) := by omega
    clear hbig
    go_wp2
    go_ret
    exact ⟨rfl, HK2.out⟩
  have hbi : ¬ (300 : Int) < (L : Int) := by omega
  have hL300 : L ≤ 300 := by omega
  clear hbig
  go_wp2_with fail
  go_loopw [26] (fun i wr => ∃ (j : Nat) (tA : Option Addr) (tc : Nat) (bl : List (Value × List UInt8)), j ≤ L ∧ i = .int .i64 j ∧ Hid (NetAt w1 wr N tA tc bl ((zs.take j).map (vm 5)))) (fun i _ => L - (intOf i).toNat)
  case atStart => exact ⟨0, _, _, _, by omega, rfl, by simpa using HN2⟩
  case round =>
    obtain ⟨j, tA, tc, bl, hj, rfl, HN⟩ := hrel
    by_cases hlt : j < L
    · have hjn : (j : Int) < (L : Int) := by omega
      have hj0 : (0 : Int) ≤ (j : Int) := by omega
      have hjz : j < zs.length := by have := HL.out; omega
      obtain ⟨a, rfl, hcell⟩ := HX.out.at hjz
      have hc := hcell wr (HK1.out.trans HN.out.same (fun _ _ e => e))
      have HZ : Hid (zs[j] < 18446744073709551616) := Lib.hid (HZS.out _ (List.getElem_mem hjz))
      have HTK : Hid ((zs.take j).map (vm 5) ++ [vm 5 zs[j]] = (zs.take (j + 1)).map (vm 5)) := Lib.hid (by
        rw [List.take_add_one, List.getElem?_eq_getElem hjz, List.map_append]; rfl)
      have HLJ : Hid (((zs.take j).map (vm 5)).length = j) := Lib.hid (by rw [List.length_map, List.length_take]; omega)
      generalize zs[j] = z at hc HZ HTK
      clear hcell hjz
      go_wp2_with ((with_reducible refine wpList_buildTo ?_ 45 #[(0, .const (.int .i64 5)), (3, .tmp 31)] ?_ (some 32) ?_ (vm 5 z).cells.toArray (by kernel_rfl) ?_); rfl; rfl; rfl)
      ((with_reducible refine (netSend_any (vm 5 z) _ HN.out (vm_in 5 z HZ.out _) HNUM1.out (by rw [HLJ.out]; omega)).mono ?_); rintro e w4 ⟨hk4, tA4, tc4, bl4, ms4, er4, rfl, hn4, hr4⟩)
      obtain ⟨rfl, rfl⟩ : er4 = 0 ∧ ms4 = (zs.take j).map (vm 5) ++ [vm 5 z] := by
        rcases hr4 with ⟨_, _, h1, h2⟩ | ⟨h, _⟩ | ⟨_, h, _⟩
        · exact ⟨h1, h2⟩
        · exact absurd (vm_right 5 z (by decide) (by decide)) h
        · rw [HLJ.out] at h; omega
      rw [HTK.out] at hn4
      have HN4 := Lib.hid hn4
      clear hk4 hn4 hr4 hc
      go_wp2
      go_roundw
      case rel => exact ⟨j + 1, tA4, tc4, bl4, by omega, by go_num, HN4⟩
      case measure => simp [intOf]; omega
    · obtain rfl : j = L := by omega
      have hjn : ¬ (j : Int) < (j : Int) := by omega
      have HN5 : Hid (NetAt w1 wr N tA tc bl (zs.map (vm 5))) := Lib.hid (by
        have := HN.out
        rwa [List.take_of_length_le (by have := HL.out; omega)] at this)
      obtain ⟨wq, rfl⟩ : ∃ wq : World, wq = wr := ⟨_, rfl⟩
      clear HN HN2
      have hzm := HZM.out
      go_wp2_with fail
      go_loopw [38] (fun i wr => ∃ (k : Nat) (tA : Option Addr) (tc : Nat) (bl : List (Value × List UInt8)), k ≤ j ∧ i = .int .i64 k ∧ Hid (NetAt w1 wr N tA tc bl ((zs.drop k).map (vm 5)))) (fun i _ => j - (intOf i).toNat)
      case atStart => exact ⟨0, _, _, _, by omega, rfl, by simpa using HN5⟩
      case round =>
        obtain ⟨k, tB, td, bm, hk, rfl, HN⟩ := hrel
        by_cases hlt2 : k < j
        · have hkn : (k : Int) < (j : Int) := by omega
          have hk0 : (0 : Int) ≤ (k : Int) := by omega
          have hkz : k < zs.length := by have := HL.out; omega
          obtain ⟨a, rfl, hcell⟩ := HX.out.at hkz
          have hc := hcell wr (HK1.out.trans HN.out.same (fun _ _ e => e))
          have HDR : Hid ((zs.drop k).map (vm 5) = vm 5 zs[k] :: (zs.drop (k + 1)).map (vm 5)) := Lib.hid (by
            rw [List.drop_eq_getElem_cons hkz, List.map_cons])
          have HLJ : Hid (((zs.drop (k + 1)).map (vm 5)).length = j - 1 - k) := Lib.hid (by rw [List.length_map, List.length_drop, HL.out]; omega)
          generalize zs[k] = z at hc HDR
          rw [HDR.out] at HN
          clear hcell hkz
          go_wp2_with fail
          clear hc
          ((with_reducible refine (netPeek_any 0 wr HN.out HNUM1.out).mono ?_); rintro e w6 ⟨hk6, m6, hi6, _, hr6⟩)
          obtain ⟨hv6, rfl⟩ : m6.v = z ∧ e = .returned (.tuple #[.agg m6.cells.toArray, .bool true]) := by
            rcases hr6 with ⟨i, hi, h2, _, h3, h4⟩ | ⟨h, _⟩
            · have : i = 0 := by omega
              subst this
              exact ⟨h3.v, h4⟩
            · exact absurd ⟨by omega, by simp⟩ h
          have HN6 := Lib.hid (HN.out.keepSame hk6)
          have HI6 := Lib.hid hi6
          have HV6 := Lib.hid hv6
          clear hk6 hi6 hr6 hv6
          obtain ⟨G6, hG6⟩ : ∃ G, w6.heap.size = G := ⟨_, rfl⟩
          obtain ⟨w7a, hw7a⟩ : ∃ wa, w6.alloc (.cells zeroM.cells.toArray 45) = wa := ⟨_, rfl⟩
          have HZ6 : Hid (w7a.heap[G6]? = some (.cells zeroM.cells.toArray 45 (0, 0))) := Lib.hid (by rw [← hw7a, ← hG6]; exact heap_alloc_new w6 _)
          obtain ⟨w7, hw7⟩ : ∃ w7, w7a.setRow G6 m6.cells.toArray = w7 := ⟨_, rfl⟩
          have HW7 := Lib.hid hw7
          have hk7 : Same w6 w7 := by rw [← hw7, ← hw7a]; exact ((Keeps.refl _ _).alloc _).setRow _ _ (.inl (by omega))
          have HM7 : Hid (Whole w7 G6 45 m6.cells) := Lib.hid (by rw [← hw7]; exact setRow_heap _ _ _ _ _ _ HZ6.out)
          have HN7 := Lib.hid (HN6.out.keepSame hk7)
          have HSZ6 := Lib.hid (Tryd.sizeMsgOf m6 HI6.out.hd)
          have HE6 : Hid (zeroM.cells.toArray.size = m6.cells.toArray.size) := Lib.hid (by rw [List.size_toArray, List.size_toArray, m6.cells_length HI6.out.hd, zeroM.cells_length rfl])
          have HAL6 : Hid (m6.cells.toArray.all (·.oneCell') = true) := Lib.hid m6.cells_all
          clear hk7 hw7
          go_wp2_with ((with_reducible refine wpList_store_row ?_ 45 (.tmp 8) (.tmp 46) ?_ G6 m6.cells.toArray ?_ ?_ 45 zeroM.cells.toArray HZ6.out HSZ6.out HE6.out HAL6.out ?_); rfl; rfl; rfl; rfl; rw [HW7.out])
          clear hG6 hw7a
          ((with_reducible refine (netTake_any 0 w7 HN7.out HNUM1.out (by rw [List.length_cons, HLJ.out]; omega)).mono ?_); rintro e w8 ⟨hk8, m8, tC, te, bn, hi8, _, hr8⟩)
          obtain ⟨hv8, rfl, hn8⟩ : m8.v = z ∧ e = .returned (.tuple #[.agg m8.cells.toArray, .bool true]) ∧ NetAt w1 w8 N tC te bn ((zs.drop (k + 1)).map (vm 5)) := by
            rcases hr8 with ⟨i, hi, h2, _, h3, h4, h5⟩ | ⟨h, _⟩
            · have : i = 0 := by omega
              subst this
              exact ⟨h3.v, h4, by simpa using h5⟩
            · exact absurd ⟨by omega, by simp⟩ h
          have HN8 := Lib.hid hn8
          have HI8 := Lib.hid hi8
          have hM8 : Whole w8 G6 45 m6.cells := hk8.keepWhole HM7.out (by decide) (by decide)
          obtain ⟨G8, hG8⟩ : ∃ G, w8.heap.size = G := ⟨_, rfl⟩
          obtain ⟨w9a, hw9a⟩ : ∃ wa, w8.alloc (.cells zeroM.cells.toArray 45) = wa := ⟨_, rfl⟩
          have HZ8 : Hid (w9a.heap[G8]? = some (.cells zeroM.cells.toArray 45 (0, 0))) := Lib.hid (by rw [← hw9a, ← hG8]; exact heap_alloc_new w8 _)
          obtain ⟨w9, hw9⟩ : ∃ w9, w9a.setRow G8 m8.cells.toArray = w9 := ⟨_, rfl⟩
          have HW9 := Lib.hid hw9
          have hk9 : Same w8 w9 := by rw [← hw9, ← hw9a]; exact ((Keeps.refl _ _).alloc _).setRow _ _ (.inl (by omega))
          have HM9 : MsgAt w9 G8 m8 := ⟨by rw [← hw9]; exact setRow_heap _ _ _ _ _ _ HZ8.out, hi8.hd⟩
          have HM6 : MsgAt w9 G6 m6 := ⟨hM8.keep hk9 (fun e => e), HI6.out.hd⟩
          have HN9 := Lib.hid (HN8.out.keepSame hk9)
          have HSZ8 := Lib.hid (Tryd.sizeMsgOf m8 HI8.out.hd)
          have HE8 : Hid (zeroM.cells.toArray.size = m8.cells.toArray.size) := Lib.hid (by rw [List.size_toArray, List.size_toArray, m8.cells_length HI8.out.hd, zeroM.cells_length rfl])
          have HAL8 : Hid (m8.cells.toArray.all (·.oneCell') = true) := Lib.hid m8.cells_all
          have cv6 : w9.cell? ⟨G6, 3, none⟩ = some (.int .u64 (z : Int)) := by
            have := HM6.low 3 _ (by omega) rfl
            rw [this, HV6.out]
          have cv8 : w9.cell? ⟨G8, 3, none⟩ = some (.int .u64 (z : Int)) := by
            have := HM9.low 3 _ (by omega) rfl
            rw [this, hv8]
          have hzz : ((z : Int) != (z : Int)) = false := by simp
          have HLEN := Lib.hid (netLen_any w9 HN9.out)
          rw [HLJ.out] at HLEN
          have hcast : ((j - 1 - k : Nat) : Int) = (j : Int) - 1 - (k : Int) := by omega
          rw [hcast] at HLEN
          have hne : (((j : Int) - 1 - (k : Int)) != ((j : Int) - 1 - (k : Int))) = false := by simp
          have u1 : IntKind.i64.wrap ((j : Int) - 1) = (j : Int) - 1 := IntWalk.i64_in _ (by omega)
          have u2 : IntKind.i64.wrap ((j : Int) - 1 - (k : Int)) = (j : Int) - 1 - (k : Int) := IntWalk.i64_in _ (by omega)
          clear hk8 hn8 hi8 hr8 hv8 hk9 hw9 HM9 HM6 hM8 hcast
          go_wp2_with ((with_reducible refine wpList_store_row ?_ 45 (.tmp 10) (.tmp 51) ?_ G8 m8.cells.toArray ?_ ?_ 45 zeroM.cells.toArray HZ8.out HSZ8.out HE8.out HAL8.out ?_); rfl; rfl; rfl; rfl; rw [HW9.out])
          clear hG8 hw9a
          ((with_reducible refine HLEN.out.mono ?_); rintro e w10 ⟨rfl, hk10⟩)
          have HN10 := Lib.hid (HN9.out.keepSame hk10)
          clear hk10
          go_wp2
          go_roundw
          case rel => exact ⟨k + 1, tC, te, bn, by omega, by go_num, HN10⟩
          case measure => simp [intOf]; omega
        · obtain rfl : k = j := by omega
          have hkn : ¬ (k : Int) < (k : Int) := by omega
          have HKE : Hid (Same w wr) := Lib.hid (HK1.out.trans HN.out.same (fun _ _ e => e))
          clear HN
          go_wp2
          go_ret
          exact ⟨rfl, HKE.out⟩
end Go.Proofs.YtafgiljgefeefaaDoor
