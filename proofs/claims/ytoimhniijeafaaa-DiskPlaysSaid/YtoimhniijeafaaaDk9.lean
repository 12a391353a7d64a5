/- Read's errors; the law's own bytes. -/
import Derived.Test.YtoimhniijeafaaaDk8
namespace Go.Proofs.Ytoimhniijeafaaa
open Go.RowKit
set_option linter.unusedVariables false

set_option maxRecDepth 100000 in
set_option maxHeartbeats 3200000 in
theorem read_out (w : World) (D : Nat) (lv ov : Value) (s : DSt) (i : Int) (h : DiskAt w D lv ov s) (hno : ¬ (s.down = false ∧ 0 ≤ i ∧ i < (s.L.length : Int))) :
    Calls Try.prog 24 #[.pointer (some ⟨D, 0, none⟩), .int .i64 i] w fun e w' => e = .returned (.tuple #[.slice none 0 0, .int .i64 (s.wcode i)]) ∧ Same w w' := by
  have hr : (if s.down = true then (3 : Int) else if 0 ≤ i ∧ i < (s.L.length : Int) then 0 else 2) = s.wcode i ∧ (s.wcode i == 0) = false := by
    unfold DSt.wcode
    cases hd : s.down with
    | true => simp
    | false =>
      have : ¬ (0 ≤ i ∧ i < (s.L.length : Int)) := fun q => hno ⟨hd, q⟩
      simp [this]
  obtain ⟨r1, r2⟩ := hr
  have HR1 := Lib.hid r1
  clear hno r1
  obtain ⟨w3, hw3⟩ : ∃ w3, ((w.alloc (.cells #[.int .i64 i] 3)).alloc (.cells #[.slice none 0 0] 31)).alloc (.cells #[.int .i64 0] 26) = w3 := ⟨_, rfl⟩
  have hk3 : Same w w3 := by rw [← hw3]; exact (((Keeps.refl _ _).alloc _).alloc _).alloc _
  have hb : Whole w3 (w.heap.size + 1) 31 [.slice none 0 0] := by
    rw [← hw3]
    have := heap_alloc_new (w.alloc (.cells #[.int .i64 i] 3)) (.cells #[.slice none 0 0] 31)
    exact ((Keeps.refl (fun _ => False) _).alloc _).obj (by simpa using this) (fun e => e)
  have hc : Whole w3 (w.heap.size + 1 + 1) 26 [.int .i64 0] := by
    rw [← hw3]
    have := heap_alloc_new ((w.alloc (.cells #[.int .i64 i] 3)).alloc (.cells #[.slice none 0 0] 31)) (.cells #[.int .i64 0] 26)
    simpa [Whole] using this
  have HD3 := Lib.hid (h.same hk3)
  have f4 := hb.cell (i := 0) rfl
  have z4 := hb.free 0
  have hc6 := hc.far ⟨w.heap.size + 1, 0, none⟩ (by simp only; omega) (.slice none 0 0)
  have f5 := hc6.cell (i := 0) rfl
  have z5 := hc6.free 0
  generalize s.wcode i = r at *
  obtain ⟨w5, hw5⟩ : ∃ w5, (w3.setCell ⟨w.heap.size + 1, 0, none⟩ (.slice none 0 0)).setCell ⟨w.heap.size + 1 + 1, 0, none⟩ (.int .i64 r) = w5 := ⟨_, rfl⟩
  have HK5 : Hid (Same w w5) := Lib.hid (by rw [← hw5]; exact (hk3.setCell _ _ (.inl (by simp only; omega))).setCell _ _ (.inl (by simp only; omega)))
  have g4 : w5.cell? ⟨w.heap.size + 1, 0, none⟩ = some (.slice none 0 0) := by rw [← hw5]; exact ((hb.set 0 (.slice none 0 0)).far _ (by simp only; omega) _).cell (i := 0) rfl
  have g5 : w5.cell? ⟨w.heap.size + 1 + 1, 0, none⟩ = some (.int .i64 r) := by rw [← hw5]; exact (hc6.set 0 (.int .i64 r)).cell (i := 0) rfl
  have HW5 := Lib.hid hw5
  have HW3 := Lib.hid hw3
  clear h hk3 hb hc hc6 hw5 hw3
  go_enter Try.func24, Try.ntmps24
  go_wp2_with fail
  rw [HW3.out]
  refine (reach_ok _ D lv ov s i HD3.out).mono ?_
  rintro e w4 ⟨he, rfl⟩
  rw [HR1.out] at he
  subst he
  go_wp2
  rw [HW5.out]
  refine bodyPost_ret (results_two rfl _ _ ⟨w.heap.size + 1, 0, none⟩ ⟨w.heap.size + 1 + 1, 0, none⟩ (.slice none 0 0) (.int .i64 r) (by rfl) (by rfl) (by clear f4 z4 f5 z5; go_simp) (by clear f4 z4 f5 z5; go_simp)) rfl ⟨rfl, HK5.out⟩

/-- What the law writes: data, over and over. -/
def fillTo (data : List UInt8) (k : Nat) : List UInt8 := (List.range 512).map fun i => if i < k then data.getD (i % data.length) 0 else 0
def filled (data : List UInt8) : List UInt8 := if data.length = 0 then noughts else fillTo data 512
theorem fillTo_length (data : List UInt8) (k : Nat) : (fillTo data k).length = 512 := by simp [fillTo]
theorem filled_length (data : List UInt8) : (filled data).length = 512 := by
  unfold filled; split
  · exact noughts_length
  · exact fillTo_length _ _
theorem fillTo_get (data : List UInt8) (k i : Nat) (h : i < 512) : (fillTo data k)[i]? = some (if i < k then data.getD (i % data.length) 0 else 0) := by
  unfold fillTo
  rw [List.getElem?_map, List.getElem?_range h]
  rfl
theorem fillTo_zero (data : List UInt8) : fillTo data 0 = noughts := by
  apply List.ext_getElem?
  intro i
  by_cases h : i < 512
  · rw [fillTo_get data 0 i h, if_neg (by omega)]
    unfold noughts
    rw [List.getElem?_replicate, if_pos h]
  · rw [List.getElem?_eq_none (by rw [fillTo_length]; omega), List.getElem?_eq_none (by rw [noughts_length]; omega)]
theorem fillTo_set (data : List UInt8) (k : Nat) (h : k < 512) : (fillTo data k).set k (data.getD (k % data.length) 0) = fillTo data (k + 1) := by
  apply List.ext_getElem?
  intro i
  by_cases hi : i < 512
  · rw [List.getElem?_set, fillTo_get data (k + 1) i hi]
    by_cases e : k = i
    · subst e; rw [if_pos rfl, if_pos (by rw [fillTo_length]; omega), if_pos (by omega)]
    · rw [if_neg e, fillTo_get data k i hi]
      by_cases q : i < k
      · rw [if_pos q, if_pos (by omega)]
      · rw [if_neg q, if_neg (by omega)]
  · rw [List.getElem?_eq_none (by rw [List.length_set, fillTo_length]; omega), List.getElem?_eq_none (by rw [fillTo_length]; omega)]
/-- The law's own call, as a value. -/
abbrev opv (kd at' : Int) (dv : Value) (raw : Bool) (fv : Value) : Value := .agg #[.int .i64 kd, .int .i64 at', dv, .bool raw, fv]

set_option maxRecDepth 100000 in
set_option maxHeartbeats 3200000 in
theorem bytes_ok (kd at' : Int) (ao fo : Option Addr) (cap fl fc : Nat) (data : List UInt8) (w : World) (hx : Bytes w (.slice ao data.length cap) data) :
    Calls Try.prog 13 #[opv kd at' (.slice ao data.length cap) false (.slice fo fl fc)] w fun e w' => ∃ g, e = .returned (.slice (some ⟨g, 0, none⟩) 512 512) ∧ w'.ownsRow w.heap.size 5 1 (.slice (some ⟨g, 0, none⟩) 512 512) 512 (u8s (filled data)) ∧ Same w w' := by
  obtain ⟨i0, hi0, hz0, hz1, hz2⟩ := info_parts Try.infoB8
  obtain ⟨w1, hw1⟩ : ∃ w1, w.alloc (.cells #[.int .i64 kd, .int .i64 at', .slice ao data.length cap, .bool false, .slice fo fl fc] 34) = w1 := ⟨_, rfl⟩
  have hk1 : Same w w1 := by rw [← hw1]; exact (Keeps.refl _ _).alloc _
  have hb1 : Whole w1 w.heap.size 34 [.int .i64 kd, .int .i64 at', .slice ao data.length cap, .bool false, .slice fo fl fc] := by rw [← hw1]; exact heap_alloc_new w _
  have hs1 : w1.heap.size = w.heap.size + 1 := by rw [← hw1]; simp
  have HX := Lib.hid hx
  have HB := Lib.hid hb1
  have HK := Lib.hid hk1
  have HW := Lib.hid hw1
  obtain ⟨c0, c1, c2, c3, c4⟩ := cell_of_five hb1
  clear hx hk1 hb1 hw1
  go_enter Try.func13, Try.ntmps13
  go_wp2_with (first
    | (at_make; (try rw [HW.out]); refine wpList_make_full _ rfl _ _ 31 rfl w1.heap.size 5 i0 _ 1 Try.underlying31 hi0 hz0 hz1 _ _ _ _ 512 (by rfl) (by rfl) rfl rfl (by rw [hz2]; omega) (by unfold maxLen; omega) (Nat.le_refl _) ?_))
  intro w2 hown hgrow
  rw [show (madeCells #[Value.int .u8 0] 512).toList = u8s (fillTo data 0) from by rw [fillTo_zero]; exact made_u8 512] at hown
  have hk2 : Same w1 w2 := (Keeps.refl _ _).grown hgrow (fun k e _ => by simp at e)
  have HO := Lib.hid hown
  have HK2 : Hid (Same w w2) := Lib.hid (HK.out.trans hk2 (fun _ _ e => e))
  have HB2 := Lib.hid (HB.out.keep hk2 (fun e => e))
  clear hown hgrow hk2 HB HK HW c0 c1 c2 c3 c4
  go_wp2
  generalize hgg : w.heap.size + 1 = g at *
  by_cases h0 : data.length = 0
  · have HF : Hid (filled data = fillTo data 0) := Lib.hid (by rw [fillTo_zero]; unfold filled; rw [if_pos h0])
    go_loopw [4] (fun i wr => i = .int .i64 0 ∧ wr = w2) (fun _ _ => 0)
    case atStart => exact ⟨rfl, rfl⟩
    case round =>
      obtain ⟨rfl, rfl⟩ := hrel
      have c2 := (cell_of_five HB2.out).2.2.1
      rw [h0] at c2
      go_wp2
      go_ret
      exact ⟨g, rfl, by rw [HF.out]; exact own_base HO.out (by omega), HK2.out⟩
  have hpos : 0 < data.length := by omega
  have HF : Hid (filled data = fillTo data 512) := Lib.hid (by unfold filled; rw [if_neg h0])
  have hn0 : ((data.length : Int) == 0) = false := by rw [beq_eq_false_iff_ne]; omega
  have hnp : (0 : Int) < (data.length : Int) := by omega
  obtain ⟨da, rfl⟩ : ∃ da, ao = some da := by
    rcases HX.out with ⟨a, c', e, _⟩ | ⟨c', e, h⟩
    · simp only [Value.slice.injEq] at e; exact ⟨a, e.1⟩
    · rw [h] at hpos; simp at hpos
  go_loopw [4] (fun i wr => ∃ k : Nat, k ≤ 512 ∧ i = .int .i64 k ∧ wr.ownsRow g 5 1 (.slice (some ⟨g, 0, none⟩) 512 512) 512 (u8s (fillTo data k)) ∧ Whole wr w.heap.size 34 [.int .i64 kd, .int .i64 at', .slice (some da) data.length cap, .bool false, .slice fo fl fc] ∧ Same w wr) (fun i _ => 512 - (intOf i).toNat)
  case atStart => exact ⟨0, by omega, rfl, HO.out, HB2.out, HK2.out⟩
  case round =>
    obtain ⟨k, hk, rfl, ho, hb, hkk⟩ := hrel
    have HO1 := Lib.hid ho
    have HB1 := Lib.hid hb
    have HK1 := Lib.hid hkk
    have c2 := (cell_of_five hb).2.2.1
    clear ho hkk hb
    by_cases hlt : k < 512
    · have hlt2 : (k : Int) < 512 := by omega
      have hmod : k % data.length < data.length := Nat.mod_lt _ hpos
      have hcell : wr.cell? (da.add (k % data.length)) = some (.int .u8 ((data.getD (k % data.length) 0).toNat : Int)) := by
        rcases HX.out.same HK1.out with ⟨a, c', e, hc⟩ | ⟨c', e, h⟩
        · simp only [Value.slice.injEq, Option.some.injEq] at e
          rw [e.1]
          exact hc _ _ (u8s_get data _ hmod)
        · simp at e
      have HC := Lib.hid (show ∀ q, Same wr q → q.cell? ⟨w.heap.size, 2, none⟩ = some (.slice (some da) data.length cap) ∧ q.cell? (da.add (k % data.length)) = some (.int .u8 ((data.getD (k % data.length) 0).toNat : Int)) from
        fun q kq => ⟨(cell_of_five (HB1.out.keep kq (fun e => e))).2.2.1, (World.cell?_of_block (w := wr) (kq.block _ (World.block_lt_of_cell? wr _ hcell) (fun e => e))).trans hcell⟩)
      have hml := Nat.mod_le k data.length
      have hr : IntKind.i64.wrap ((k : Int).tmod (data.length : Int)) = ((k % data.length : Nat) : Int) := by
        rw [Int.tmod_eq_emod_of_nonneg (by omega), ← Int.natCast_emod]
        exact IntWalk.i64_in _ (by omega)
      have hr2 : (k : Int).tmod (data.length : Int) = ((k % data.length : Nat) : Int) := by rw [Int.tmod_eq_emod_of_nonneg (by omega), ← Int.natCast_emod]
      have hm1 : ((k % data.length : Nat) : Int) < (data.length : Int) := by omega
      clear hcell
      go_wp2
      generalize hmm : k % data.length = m at *
      refine wp_region_tail [[], [], [], [2], [], [], [5], [6], [4, 7], [3, 8], [9], [0, 1, 0, 1, 2, 3, 4, 5, 6, 7, 8, 9, 10], [11, 10, 0, 1, 2, 3, 4, 5, 6, 7, 8, 9, 10]]
        [some 22, some 23, some 24, some 25, some 26, some 27, some 28, some 29, some 30, some 31, some 32, some 33, none]
        [.is (.slice (some ⟨g, 0, none⟩) 512 512), .is (.int .i64 (k : Nat)), .is (.pointer (some ⟨w.heap.size, 2, none⟩)), .is (.slice (some da) data.length cap), .is (.int .i64 (k : Nat)), .is (.pointer (some ⟨w.heap.size, 2, none⟩)), .is (.slice (some da) data.length cap), .is (.int .i64 (data.length : Nat)), .is (.int .i64 (m : Nat)), .is (.pointer (some (da.add m))), .is (.int .u8 ((data.getD m 0).toNat : Int))]
        (fun _ => False) [] (fun _ _ => True) 7 _ _ 35 11 13 (by kernel_rfl) (by rfl) (by rfl) (by omega) (by kernel_rfl) (by kernel_rfl) (by decide) (by decide) (fun _ e => e.elim) trivial (fun _ _ _ h _ => h) ?_ ?_
      · refine ⟨?_, ?_, ?_, ?_, ?_, ?_, ?_, ?_, ?_, ?_, ?_, trivial⟩
        · intro a w' K hk hdep hfr hK
          have f := hfr 3 (by decide)
          exact plan_do (by rfl) (plan_yield (i := 0) (V := fun _ _ v => v = (.slice (some ⟨g, 0, none⟩) 512 512 : Value)) (.slice (some ⟨g, 0, none⟩) 512 512) (by go_simp) rfl hK)
        · intro a w' K hk hdep hfr hK
          have f := hfr 4 (by decide)
          exact plan_do (by rfl) (plan_yield (i := 1) (V := fun _ _ v => v = (.int .i64 (k : Nat) : Value)) (.int .i64 (k : Nat)) (by go_simp) rfl hK)
        · intro a w' K hk hdep hfr hK
          have f := hfr 1 (by decide)
          exact plan_do (by rfl) (plan_yield (i := 2) (V := fun _ _ v => v = (.pointer (some ⟨w.heap.size, 2, none⟩) : Value)) (.pointer (some ⟨w.heap.size, 2, none⟩)) (by go_simp) rfl hK)
        · intro a w' K hk hdep hfr hK
          have e24 : a.tmps[24]?.getD undef = .pointer (some ⟨w.heap.size, 2, none⟩) := hdep 2 (by decide) 24 rfl
          have c2 := (HC.out w' hk).1
          exact plan_do (by rfl) (plan_yield (i := 3) (V := fun _ _ v => v = (.slice (some da) data.length cap : Value)) (.slice (some da) data.length cap) (by go_simp) rfl hK)
        · intro a w' K hk hdep hfr hK
          have f := hfr 4 (by decide)
          exact plan_do (by rfl) (plan_yield (i := 4) (V := fun _ _ v => v = (.int .i64 (k : Nat) : Value)) (.int .i64 (k : Nat)) (by go_simp) rfl hK)
        · intro a w' K hk hdep hfr hK
          have f := hfr 1 (by decide)
          exact plan_do (by rfl) (plan_yield (i := 5) (V := fun _ _ v => v = (.pointer (some ⟨w.heap.size, 2, none⟩) : Value)) (.pointer (some ⟨w.heap.size, 2, none⟩)) (by go_simp) rfl hK)
        · intro a w' K hk hdep hfr hK
          have e27 : a.tmps[27]?.getD undef = .pointer (some ⟨w.heap.size, 2, none⟩) := hdep 5 (by decide) 27 rfl
          have c2 := (HC.out w' hk).1
          exact plan_do (by rfl) (plan_yield (i := 6) (V := fun _ _ v => v = (.slice (some da) data.length cap : Value)) (.slice (some da) data.length cap) (by go_simp) rfl hK)
        · intro a w' K hk hdep hfr hK
          have e28 : a.tmps[28]?.getD undef = .slice (some da) data.length cap := hdep 6 (by decide) 28 rfl
          exact plan_do (by rfl) (plan_yield (i := 7) (V := fun _ _ v => v = (.int .i64 (data.length : Nat) : Value)) (.int .i64 (data.length : Nat)) (by go_simp) rfl hK)
        · intro a w' K hk hdep hfr hK
          have e26 : a.tmps[26]?.getD undef = .int .i64 (k : Nat) := hdep 4 (by decide) 26 rfl
          have e29 : a.tmps[29]?.getD undef = .int .i64 (data.length : Nat) := hdep 7 (by decide) 29 rfl
          exact plan_do (by rfl) (plan_yield (i := 8) (V := fun _ _ v => v = (.int .i64 (m : Nat) : Value)) (.int .i64 (m : Nat)) (by go_simp) rfl hK)
        · intro a w' K hk hdep hfr hK
          have e25 : a.tmps[25]?.getD undef = .slice (some da) data.length cap := hdep 3 (by decide) 25 rfl
          have e30 : a.tmps[30]?.getD undef = .int .i64 (m : Nat) := hdep 8 (by decide) 30 rfl
          exact plan_do (by rfl) (plan_yield (i := 9) (V := fun _ _ v => v = (.pointer (some (da.add m)) : Value)) (.pointer (some (da.add m))) (by go_simp) rfl hK)
        · intro a w' K hk hdep hfr hK
          have e31 : a.tmps[31]?.getD undef = .pointer (some (da.add m)) := hdep 9 (by decide) 31 rfl
          have cc := (HC.out w' hk).2
          exact plan_do (by rfl) (plan_yield (i := 10) (V := fun _ _ v => v = (.int .u8 ((data.getD m 0).toNat : Int) : Value)) (.int .u8 ((data.getD m 0).toNat : Int)) (by go_simp) rfl hK)
      intro a w3 hk3 hdef hsz hv hfr _
      have e22 : a.tmps[22]?.getD undef = .slice (some ⟨g, 0, none⟩) 512 512 := hv 0 22 (by omega) rfl
      have e23 : a.tmps[23]?.getD undef = .int .i64 (k : Nat) := hv 1 23 (by omega) rfl
      have e32 : a.tmps[32]?.getD undef = .int .u8 ((data.getD m 0).toNat : Int) := hv 10 32 (by omega) rfl
      have he := act_eq a _ [some 22, some 23, some 24, some 25, some 26, some 27, some 28, some 29, some 30, some 31, some 32, some 33, none] 35 rfl hsz hdef hfr (fun d => a.tmps[d]?.getD undef) (fun _ _ => rfl)
      obtain ⟨v24, h24⟩ : ∃ v, a.tmps[24]?.getD undef = v := ⟨_, rfl⟩
      obtain ⟨v25, h25⟩ : ∃ v, a.tmps[25]?.getD undef = v := ⟨_, rfl⟩
      obtain ⟨v26, h26⟩ : ∃ v, a.tmps[26]?.getD undef = v := ⟨_, rfl⟩
      obtain ⟨v27, h27⟩ : ∃ v, a.tmps[27]?.getD undef = v := ⟨_, rfl⟩
      obtain ⟨v28, h28⟩ : ∃ v, a.tmps[28]?.getD undef = v := ⟨_, rfl⟩
      obtain ⟨v29, h29⟩ : ∃ v, a.tmps[29]?.getD undef = v := ⟨_, rfl⟩
      obtain ⟨v30, h30⟩ : ∃ v, a.tmps[30]?.getD undef = v := ⟨_, rfl⟩
      obtain ⟨v31, h31⟩ : ∃ v, a.tmps[31]?.getD undef = v := ⟨_, rfl⟩
      obtain ⟨v33, h33⟩ : ∃ v, a.tmps[33]?.getD undef = v := ⟨_, rfl⟩
      simp only [putAll, e22, e23, h24, h25, h26, h27, h28, h29, h30, h31, e32, h33, List.setIfInBounds_toArray, List.set_cons_zero, List.set_cons_succ] at he
      clear e22 e23 h24 h25 h26 h27 h28 h29 h30 h31 e32 h33 hdef hsz hv hfr
      subst he
      have ho3 := own_keeps hk3 HO1.out (fun _ _ e => e)
      obtain ⟨hc3, hf3⟩ := own_cell ho3 k hlt
      have hgl := (ho3.lt g rfl)
      have hkset : Keeps (fun q => q = g) w3 (w3.setCell ⟨g, k, none⟩ (.int .u8 ((data.getD m 0).toNat : Int))) := (Keeps.refl _ _).setCell _ _ (.inr rfl)
      have hnew := own_set8 (data.getD m 0) ho3 hlt rfl
      have HN : Hid ((w3.setCell ⟨g, k, none⟩ (.int .u8 ((data.getD m 0).toNat : Int))).ownsRow g 5 1 (.slice (some ⟨g, 0, none⟩) 512 512) 512 (u8s (fillTo data (k + 1))) ∧ Whole (w3.setCell ⟨g, k, none⟩ (.int .u8 ((data.getD m 0).toNat : Int))) w.heap.size 34 [.int .i64 kd, .int .i64 at', .slice (some da) data.length cap, .bool false, .slice fo fl fc] ∧ Same w (w3.setCell ⟨g, k, none⟩ (.int .u8 ((data.getD m 0).toNat : Int)))) := Lib.hid
        ⟨by rw [← fillTo_set data k hlt, hmm]; exact hnew, (HB1.out.keep hk3 (fun e => e)).keep hkset (by omega), (HK1.out.trans hk3 (fun _ _ e => e)).trans hkset (fun q hq e => by omega)⟩
      clear ho3 hkset hnew hk3
      go_wp2
      go_roundw
      case rel =>
        have HN' := HN.out
        have hge : data.getD m 0 = data[m] := by simp [List.getD_eq_getElem?_getD, hmod]
        rw [hge] at HN'
        exact ⟨k + 1, by omega, by go_num, HN'.1, HN'.2.1, HN'.2.2⟩
      case measure => simp [intOf]; omega
    · have hlt2 : ¬ (k : Int) < 512 := by omega
      obtain rfl : k = 512 := by omega
      go_wp2
      go_ret
      exact ⟨g, rfl, by rw [HF.out]; exact own_base HO1.out (by omega), HK1.out⟩
end Go.Proofs.Ytoimhniijeafaaa
