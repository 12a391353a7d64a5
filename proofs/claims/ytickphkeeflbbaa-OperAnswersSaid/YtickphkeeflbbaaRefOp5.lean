/- What the document's own Read of an operation does. -/
import Derived.Test.YtickphkeeflbbaaRefOp4
namespace Go.Proofs.Ytickphkeeflbbaa
open Go.RowKit
set_option linter.unusedVariables false

set_option maxRecDepth 100000 in
set_option maxHeartbeats 6400000 in
theorem refRead_any (ao : Option Addr) (c : Nat) (bs : List UInt8) (w : World) (hx : Bytes w (.slice ao bs.length c) bs) (hc : bs.length ≤ c) (hl : bs.length ≤ 140737488351232) :
    Calls Try.prog 13 #[.slice ao bs.length c] w fun e w' => Same w w' ∧ ∃ k off n p t ds v er, e = .returned (.tuple #[opVal k off n p t v, .int .i64 er]) ∧ Reads w' v ds ∧ OpIs bs k off n p t ds er := by
  have hzs := Try.zeroOp
  obtain ⟨w1, hw1⟩ : ∃ w1, (w.alloc (.cells op0.toArray 25)).alloc (.cells #[.slice ao bs.length c, .int .i64 0] 71) = w1 := ⟨_, rfl⟩
  obtain ⟨E, hE⟩ : ∃ E, w.heap.size + 1 = E := ⟨_, rfl⟩
  have hE0 : (w.alloc (.cells op0.toArray 25)).heap.size = E := by rw [← hE]; simp
  have hE1 : w.heap.size < E := by omega
  have hk1 : Same w w1 := by rw [← hw1]; exact ((Keeps.refl _ _).alloc _).alloc _
  have HR1 : Hid (Whole w1 w.heap.size 25 op0) := Lib.hid (by
    rw [← hw1]; exact Whole.keep (w := w.alloc (.cells op0.toArray 25)) (S := fun _ => False) (heap_alloc_new w _) ((Keeps.refl _ _).alloc _) (fun e => e))
  have HE1 : Hid (REye w1 E ao c bs 0) := Lib.hid ⟨by rw [← hw1, ← hE0]; exact heap_alloc_new _ _, hx.same hk1, Nat.zero_le _, hc, fun a e hn => by subst e; have := hx.lt hn; omega⟩
  have HK1 := Lib.hid hk1
  have HW1 := Lib.hid hw1
  have HEE := Lib.hid hE
  clear hx hk1 hw1 hE hE0
  obtain ⟨n0, hn0⟩ : ∃ n0, numAt bs 0 1 = n0 := ⟨_, rfl⟩
  obtain ⟨i1, hi1⟩ : ∃ i1, numTo bs 0 1 = i1 := ⟨_, rfl⟩
  obtain ⟨n1, hn1⟩ : ∃ n1, numAt bs i1 2 = n1 := ⟨_, rfl⟩
  obtain ⟨i2, hi2⟩ : ∃ i2, numTo bs i1 2 = i2 := ⟨_, rfl⟩
  obtain ⟨n2, hn2⟩ : ∃ n2, numAt bs i2 2 = n2 := ⟨_, rfl⟩
  obtain ⟨i3, hi3⟩ : ∃ i3, numTo bs i2 2 = i3 := ⟨_, rfl⟩
  obtain ⟨p1, hp1⟩ : ∃ p1, txtAt bs i3 = p1 := ⟨_, rfl⟩
  obtain ⟨i4, hi4⟩ : ∃ i4, txtTo bs i3 = i4 := ⟨_, rfl⟩
  obtain ⟨p2, hp2⟩ : ∃ p2, txtAt bs i4 = p2 := ⟨_, rfl⟩
  obtain ⟨i5, hi5⟩ : ∃ i5, txtTo bs i4 = i5 := ⟨_, rfl⟩
  obtain ⟨ds, hds⟩ : ∃ ds, txtAt bs i5 = ds := ⟨_, rfl⟩
  obtain ⟨i6, hi6⟩ : ∃ i6, txtTo bs i5 = i6 := ⟨_, rfl⟩
  have hb0 : n0 < 65536 := by rw [← hn0]; have := numAt_lt bs 0 1; omega
  have hb1 : n1 < 65536 := by rw [← hn1]; have := numAt_lt bs i1 2; omega
  have hb2 : n2 < 65536 := by rw [← hn2]; have := numAt_lt bs i2 2; omega
  have HI := Lib.hid (show numTo bs 0 1 = i1 ∧ numTo bs i1 2 = i2 ∧ numTo bs i2 2 = i3 ∧ txtTo bs i3 = i4 ∧ txtTo bs i4 = i5 ∧ txtTo bs i5 = i6 from ⟨hi1, hi2, hi3, hi4, hi5, hi6⟩)
  have HV := Lib.hid (show numAt bs 0 1 = n0 ∧ numAt bs i1 2 = n1 ∧ numAt bs i2 2 = n2 ∧ txtAt bs i3 = p1 ∧ txtAt bs i4 = p2 ∧ txtAt bs i5 = ds from ⟨hn0, hn1, hn2, hp1, hp2, hds⟩)
  have HIO := Lib.hid Try.sizeOp
  have HB0 := Lib.hid hb0
  have HB1 := Lib.hid hb1
  have HB2 := Lib.hid hb2
  clear hn0 hi1 hn1 hi2 hn2 hi3 hp1 hi4 hp2 hi5 hds hi6 hb0 hb1 hb2
  go_enter Try.func13, Try.ntmps13
  go_wp2_with fail
  rw [HW1.out, HEE.out]
  ((with_reducible refine (reye_num E ao c bs 0 1 _ _ HE1.out hl (by omega) (by omega) (by omega)).mono ?_); rintro e w2 ⟨er0, rfl, hy, hk, hq⟩)
  rw [HV.out.1]
  rw [HI.out.1] at hy
  have HQ0 := Lib.hid hq
  have HE2 := Lib.hid hy
  have HR2 := Lib.hid (HR1.out.keep hk (by omega))
  have HK2 : Hid (Same w w2) := Lib.hid (HK1.out.trans hk (fun q hq e => by omega))
  clear hy hk hq HE1 HR1 HK1
  go_wp2_with fail
  ((with_reducible refine (reye_num E ao c bs i1 2 _ _ HE2.out hl (by omega) (by omega) (by omega)).mono ?_); rintro e w3 ⟨er1, rfl, hy, hk, hq⟩)
  rw [HV.out.2.1]
  rw [HI.out.2.1] at hy
  have HQ1 := Lib.hid hq
  have HE3 := Lib.hid hy
  have HR3 := Lib.hid (HR2.out.keep hk (by omega))
  have HK3 : Hid (Same w w3) := Lib.hid (HK2.out.trans hk (fun q hq e => by omega))
  clear hy hk hq HE2 HR2 HK2
  go_wp2_with fail
  ((with_reducible refine (reye_num E ao c bs i2 2 _ _ HE3.out hl (by omega) (by omega) (by omega)).mono ?_); rintro e w4 ⟨er2, rfl, hy, hk, hq⟩)
  rw [HV.out.2.2.1]
  rw [HI.out.2.2.1] at hy
  have HQ2 := Lib.hid hq
  have HE4 := Lib.hid hy
  have HR4 := Lib.hid (HR3.out.keep hk (by omega))
  have HK4 : Hid (Same w w4) := Lib.hid (HK3.out.trans hk (fun q hq e => by omega))
  clear hy hk hq HE3 HR3 HK3
  go_wp2_with fail
  ((with_reducible refine (reye_txt E ao c bs i3 _ HE4.out hl).mono ?_); rintro e w5 ⟨r3, er3, rfl, hrd, hrp, hy, hk, hq⟩)
  rw [HV.out.2.2.2.1] at hrd hrp
  rw [HI.out.2.2.2.1] at hy
  have HQ3 := Lib.hid hq
  have HT3 := Lib.hid hrd
  have HRW3 : Hid (∀ a n c, r3 = .slice (some a) n c → p1 ≠ [] → ¬ a.block = w.heap.size) := Lib.hid (fun a n c e hn => by have := hrp a n c e hn; have := HR4.out.lt; omega)
  have HP3 : Hid (∀ a n c, r3 = .slice (some a) n c → p1 ≠ [] → a.block ≠ E) := Lib.hid (fun a n c e hn => by have := hrp a n c e hn; have := HE4.out.lt; omega)
  have HE5 := Lib.hid hy
  have HR5 := Lib.hid (HR4.out.keep hk (by omega))
  have HK5 : Hid (Same w w5) := Lib.hid (HK4.out.trans hk (fun q hq e => by omega))
  clear hy hk hq HE4 HR4 HK4 hrd hrp
  go_wp2_with fail
  ((with_reducible refine (reye_txt E ao c bs i4 _ HE5.out hl).mono ?_); rintro e w6 ⟨r4, er4, rfl, hrd, hrp, hy, hk, hq⟩)
  rw [HV.out.2.2.2.2.1] at hrd hrp
  rw [HI.out.2.2.2.2.1] at hy
  have HQ4 := Lib.hid hq
  have HT4 := Lib.hid hrd
  have HRW4 : Hid (∀ a n c, r4 = .slice (some a) n c → p2 ≠ [] → ¬ a.block = w.heap.size) := Lib.hid (fun a n c e hn => by have := hrp a n c e hn; have := HR5.out.lt; omega)
  have HP4 : Hid (∀ a n c, r4 = .slice (some a) n c → p2 ≠ [] → a.block ≠ E) := Lib.hid (fun a n c e hn => by have := hrp a n c e hn; have := HE5.out.lt; omega)
  replace HT3 := Lib.hid (HT3.out.past HP3.out hk)
  have HE6 := Lib.hid hy
  have HR6 := Lib.hid (HR5.out.keep hk (by omega))
  have HK6 : Hid (Same w w6) := Lib.hid (HK5.out.trans hk (fun q hq e => by omega))
  clear hy hk hq HE5 HR5 HK5 hrd hrp
  go_wp2_with fail
  ((with_reducible refine (reye_txt E ao c bs i5 _ HE6.out hl).mono ?_); rintro e w7 ⟨r5, er5, rfl, hrd, hrp, hy, hk, hq⟩)
  rw [HV.out.2.2.2.2.2] at hrd hrp
  rw [HI.out.2.2.2.2.2] at hy
  have HQ5 := Lib.hid hq
  have HT5 := Lib.hid hrd
  have HRW5 : Hid (∀ a n c, r5 = .slice (some a) n c → ds ≠ [] → ¬ a.block = w.heap.size) := Lib.hid (fun a n c e hn => by have := hrp a n c e hn; have := HR6.out.lt; omega)
  have HP5 : Hid (∀ a n c, r5 = .slice (some a) n c → ds ≠ [] → a.block ≠ E) := Lib.hid (fun a n c e hn => by have := hrp a n c e hn; have := HE6.out.lt; omega)
  replace HT3 := Lib.hid (HT3.out.past HP3.out hk)
  replace HT4 := Lib.hid (HT4.out.past HP4.out hk)
  have HE7 := Lib.hid hy
  have HR7 := Lib.hid (HR6.out.keep hk (by omega))
  have HK7 : Hid (Same w w7) := Lib.hid (HK6.out.trans hk (fun q hq e => by omega))
  clear hy hk hq HE6 HR6 HK6 hrd hrp
  obtain ⟨ro, rc, rfl, hb15, hs15, hc15⟩ := HT5.out
  have HT15 := Lib.hid hb15
  have HS15 := Lib.hid hs15
  have HC15 := Lib.hid hc15
  have u0 : IntKind.i64.wrap (n0 : Int) = n0 := by have := IntWalk.i64_in (n0 : Int) (by have := HB0.out; omega); exact this
  have u1 : IntKind.i64.wrap (n1 : Int) = n1 := by have := IntWalk.i64_in (n1 : Int) (by have := HB1.out; omega); exact this
  have u2 : IntKind.i64.wrap (n2 : Int) = n2 := by have := IntWalk.i64_in (n2 : Int) (by have := HB2.out; omega); exact this
  have k3 := run_reads HT3.out
  have k4 := run_reads HT4.out
  obtain ⟨w8, hw8⟩ : ∃ w8, (w7.alloc (.cells op0.toArray 25)).setRow w7.heap.size (opCells (n0 : Nat) (n1 : Nat) (n2 : Nat) ⟨p1.toArray⟩ ⟨p2.toArray⟩ (.slice ro ds.length rc)).toArray = w8 := ⟨_, rfl⟩
  have hk8 : Same w7 w8 := by rw [← hw8]; exact ((Keeps.refl _ _).alloc _).setRow _ _ (.inl (Nat.le_refl _))
  have HG8 : Hid (Whole w8 w7.heap.size 25 (opCells (n0 : Nat) (n1 : Nat) (n2 : Nat) ⟨p1.toArray⟩ ⟨p2.toArray⟩ (.slice ro ds.length rc))) := Lib.hid (by rw [← hw8]; exact Whole.row (cs := op0) (heap_alloc_new w7 _))
  have HK8 : Hid (Same w w8) := Lib.hid (HK7.out.trans hk8 (fun _ _ e => e))
  have HE8 := Lib.hid (HE7.out.same hk8)
  have HR8 := Lib.hid (HR7.out.keep hk8 (fun e => e))
  have HD8 : Hid (Bytes w8 (.slice ro ds.length rc) ds) := Lib.hid (HT15.out.same hk8)
  have HN7 : Hid ((w7.alloc (.cells op0.toArray 25)).heap[w7.heap.size]? = some (.cells op0.toArray 25 (0, 0))) := Lib.hid (heap_alloc_new w7 _)
  have HRP5 : Hid (∀ a n c, Value.slice ro ds.length rc = .slice (some a) n c → ds ≠ [] → ¬ a.block = w.heap.size) := Lib.hid HRW5.out
  have hGR : w.heap.size < w7.heap.size := by have := HR7.out.lt; omega
  have HW8 := Lib.hid hw8
  clear hb15 hs15 hc15 HT5 hk8 hw8 HE7 HR7 HK7 HT15 HP3 HP4 HP5 HRW5 HT3 HT4
  obtain ⟨er, her⟩ : ∃ er : Int, (if i6 = bs.length then 0 else 21) = er := ⟨_, rfl⟩
  have HER := Lib.hid her
  have hb6 : er = 0 ∨ er = 21 := by rw [← her]; split <;> simp
  have hq0 : er0 = 0 ∨ er0 = 20 := by rcases HQ0.out with h | h <;> simp [h.1]
  have hq1 : er1 = 0 ∨ er1 = 20 := by rcases HQ1.out with h | h <;> simp [h.1]
  have hq2 : er2 = 0 ∨ er2 = 20 := by rcases HQ2.out with h | h <;> simp [h.1]
  have hq3 : er3 = 0 ∨ er3 = 20 := by rcases HQ3.out with h | h <;> simp [h.1]
  have hq4 : er4 = 0 ∨ er4 = 20 := by rcases HQ4.out with h | h <;> simp [h.1]
  have hq5 : er5 = 0 ∨ er5 = 20 := by rcases HQ5.out with h | h <;> simp [h.1]
  have s1 : IntKind.i64.wrap (er0 + er1) = er0 + er1 := IntWalk.i64_in _ (by omega)
  have s2 : IntKind.i64.wrap (er0 + er1 + er2) = er0 + er1 + er2 := IntWalk.i64_in _ (by omega)
  have s3 : IntKind.i64.wrap (er0 + er1 + er2 + er3) = er0 + er1 + er2 + er3 := IntWalk.i64_in _ (by omega)
  have s4 : IntKind.i64.wrap (er0 + er1 + er2 + er3 + er4) = er0 + er1 + er2 + er3 + er4 := IntWalk.i64_in _ (by omega)
  have s5 : IntKind.i64.wrap (er0 + er1 + er2 + er3 + er4 + er5) = er0 + er1 + er2 + er3 + er4 + er5 := IntWalk.i64_in _ (by omega)
  have s6 : IntKind.i64.wrap (er0 + er1 + er2 + er3 + er4 + er5 + er) = er0 + er1 + er2 + er3 + er4 + er5 + er := IntWalk.i64_in _ (by omega)
  have HSUM : Hid (er0 + er1 + er2 + er3 + er4 + er5 + er = 0 → (0 + 1 ≤ bs.length ∧ i1 + 2 ≤ bs.length ∧ i2 + 2 ≤ bs.length ∧ TxtOk bs i3 ∧ TxtOk bs i4 ∧ TxtOk bs i5 ∧ txtTo bs i5 = bs.length)) := Lib.hid (by
    intro h0
    have z6 : i6 = bs.length := by
      have h9 : er = 0 := by omega
      rw [h9] at her
      by_cases h8 : i6 = bs.length
      · exact h8
      · rw [if_neg h8] at her; omega
    refine ⟨?_, ?_, ?_, ?_, ?_, ?_, HI.out.2.2.2.2.2.trans z6⟩
    · rcases HQ0.out with h | h
      · exact h.2
      · omega
    · rcases HQ1.out with h | h
      · exact h.2
      · omega
    · rcases HQ2.out with h | h
      · exact h.2
      · omega
    · rcases HQ3.out with h | h
      · exact h.2
      · omega
    · rcases HQ4.out with h | h
      · exact h.2
      · omega
    · rcases HQ5.out with h | h
      · exact h.2
      · omega)
  have HSUN : Hid (¬ er0 + er1 + er2 + er3 + er4 + er5 + er = 0 → ¬ (0 + 1 ≤ bs.length ∧ i1 + 2 ≤ bs.length ∧ i2 + 2 ≤ bs.length ∧ TxtOk bs i3 ∧ TxtOk bs i4 ∧ TxtOk bs i5 ∧ txtTo bs i5 = bs.length)) := Lib.hid (by
    intro h0 ⟨c1, c2, c3, c4, c5, c6, c7⟩
    apply h0
    have z6 : i6 = bs.length := HI.out.2.2.2.2.2.symm.trans c7
    rw [if_pos z6] at her
    have y0 : er0 = 0 := by rcases HQ0.out with h | h; exact h.1; exact absurd c1 h.2
    have y1 : er1 = 0 := by rcases HQ1.out with h | h; exact h.1; exact absurd c2 h.2
    have y2 : er2 = 0 := by rcases HQ2.out with h | h; exact h.1; exact absurd c3 h.2
    have y3 : er3 = 0 := by rcases HQ3.out with h | h; exact h.1; exact absurd c4 h.2
    have y4 : er4 = 0 := by rcases HQ4.out with h | h; exact h.1; exact absurd c5 h.2
    have y5 : er5 = 0 := by rcases HQ5.out with h | h; exact h.1; exact absurd c6 h.2
    omega)
  have HOP : Hid ((0 + 1 ≤ bs.length ∧ i1 + 2 ≤ bs.length ∧ i2 + 2 ≤ bs.length ∧ TxtOk bs i3 ∧ TxtOk bs i4 ∧ TxtOk bs i5 ∧ txtTo bs i5 = bs.length) → opBytes (n0 : Nat) (n1 : Nat) (n2 : Nat) ⟨p1.toArray⟩ ⟨p2.toArray⟩ ds = bs) := Lib.hid (by
    intro h
    have := op_of_rd HI.out.1 HI.out.2.1 HI.out.2.2.1 HI.out.2.2.2.1 HI.out.2.2.2.2.1 h
    rw [HV.out.1, HV.out.2.1, HV.out.2.2.1, HV.out.2.2.2.1, HV.out.2.2.2.2.1, HV.out.2.2.2.2.2] at this
    exact this)
  have HNO : Hid (∀ k off n p t ds', OpRight k off n p t (List.length ds') → opBytes k off n p t ds' = bs → OpRight (n0 : Nat) (n1 : Nat) (n2 : Nat) ⟨p1.toArray⟩ ⟨p2.toArray⟩ ds.length ∧ (0 + 1 ≤ bs.length ∧ i1 + 2 ≤ bs.length ∧ i2 + 2 ≤ bs.length ∧ TxtOk bs i3 ∧ TxtOk bs i4 ∧ TxtOk bs i5 ∧ txtTo bs i5 = bs.length)) := Lib.hid (by
    intro k off n p t ds' hr hb
    obtain ⟨q0, q1, q2, q3, q4, q5, qq⟩ := rd_of_op hr hb i1 i2 i3 i4 i5 HI.out.1 HI.out.2.1 HI.out.2.2.1 HI.out.2.2.2.1 HI.out.2.2.2.2.1
    rw [HV.out.1] at q0
    rw [HV.out.2.1] at q1
    rw [HV.out.2.2.1] at q2
    rw [HV.out.2.2.2.1] at q3
    rw [HV.out.2.2.2.2.1] at q4
    rw [HV.out.2.2.2.2.2] at q5
    have r1 : (⟨p1.toArray⟩ : ByteArray) = p := sb_inj (by rw [sb_mk, q3])
    have r2 : (⟨p2.toArray⟩ : ByteArray) = t := sb_inj (by rw [sb_mk, q4])
    rw [q0, q1, q2, r1, r2, q5]
    exact ⟨hr, qq⟩)
  clear her hb6 hq0 hq1 hq2 hq3 hq4 hq5 HQ0 HQ1 HQ2 HQ3 HQ4 HQ5
  go_wp2_with (first
    | (refine wpList_store_row (by rfl) 25 _ _ (by rfl) w7.heap.size (opCells (n0 : Nat) (n1 : Nat) (n2 : Nat) ⟨p1.toArray⟩ ⟨p2.toArray⟩ (.slice ro ds.length rc)).toArray (by rfl) (by rfl) 25 op0.toArray HN7.out HIO.out rfl (op_all _ _ _ _ _ _ _ _) ?_; rw [HW8.out]))
  ((with_reducible refine (reye_fin E ao c bs i6 _ HE8.out hl).mono ?_); rintro e w9 ⟨rfl, hk9⟩)
  rw [HER.out]
  have HG9 := Lib.hid (HG8.out.keep hk9 (fun e => e))
  have HR9 := Lib.hid (HR8.out.keep hk9 (fun e => e))
  have HK9 : Hid (Same w w9) := Lib.hid (HK8.out.trans hk9 (fun _ _ e => e))
  have HD9 : Hid (Bytes w9 (.slice ro ds.length rc) ds) := Lib.hid (HD8.out.same hk9)
  clear hk9 HG8 HR8 HK8 HD8 HE8 u0 u1 u2 k3 k4 HN7 HW8 HER
  generalize hGG : w7.heap.size = G at *
  by_cases hS : er0 + er1 + er2 + er3 + er4 + er5 + er = 0
  case neg =>
    have HNN : Hid (∀ k off n p t ds', OpRight k off n p t (List.length ds') → opBytes k off n p t ds' ≠ bs) := Lib.hid (fun k off n p t ds' hr hb => HSUN.out hS (HNO.out k off n p t ds' hr hb).2)
    have HEND : Hid (Same w (w9.setRow w.heap.size op0.toArray) ∧ Whole (w9.setRow w.heap.size op0.toArray) w.heap.size 25 op0) := Lib.hid
      ⟨HK9.out.setRow _ _ (.inl (Nat.le_refl _)), HR9.out.row⟩
    clear HSUM HSUN HOP HNO HG9 HD9
    go_wp2_with (first
      | (refine wpList_buildTo (by rfl) 25 _ (by rfl) _ (by rfl) op0.toArray (by kernel_rfl) ?_)
      | (refine wpList_store_row (by rfl) 25 _ _ (by rfl) w.heap.size op0.toArray (by rfl) (by rfl) 25 op0.toArray HR9.out HIO.out rfl (op_all _ _ _ _ _ _ _ _) ?_))
    refine bodyPost_ret (v := .tuple #[.agg op0.toArray, .int .i64 22]) (results_row_tmp (p := 2) (u := 3) (ty := 25) rfl _ _ w.heap.size 25 _ (0, 0) _ (by rfl) HEND.out.2 Try.underlying25 rfl HIO.out) rfl
      ⟨HEND.out.1, 0, 0, 0, ⟨#[]⟩, ⟨#[]⟩, [], .slice none 0 0, 22, rfl, Reads.nil _ _ _, .inr ⟨HNN.out, rfl, rfl, rfl, rfl, rfl, rfl, rfl⟩⟩
  have hq := HSUM.out hS
  have HQ := Lib.hid hq
  obtain ⟨a0, a1, a2, a3, a4, a5⟩ := cell_of_six (show w9.heap[G]? = some (.cells #[.int .i64 (n0 : Nat), .string ⟨p1.toArray⟩, .string ⟨p2.toArray⟩, .int .i64 (n1 : Nat), .int .i64 (n2 : Nat), .slice ro ds.length rc] 25 (0, 0)) from HG9.out)
  clear hq HSUM HSUN
  go_wp2_with fail
  ((with_reducible refine (refRight_ok (n0 : Nat) (n1 : Nat) (n2 : Nat) ⟨p1.toArray⟩ ⟨p2.toArray⟩ ro ds.length rc _).mono ?_); rintro e w10 ⟨rfl, hk10⟩)
  clear a0 a1 a2 a3 a4 a5
  have HG10 := Lib.hid (HG9.out.keep hk10 (fun e => e))
  have HR10 := Lib.hid (HR9.out.keep hk10 (fun e => e))
  have HK10 : Hid (Same w w10) := Lib.hid (HK9.out.trans hk10 (fun _ _ e => e))
  have HD10 : Hid (Bytes w10 (.slice ro ds.length rc) ds) := Lib.hid (HD9.out.same hk10)
  clear hk10 HG9 HR9 HK9 HD9
  by_cases hR : OpRight (n0 : Nat) (n1 : Nat) (n2 : Nat) ⟨p1.toArray⟩ ⟨p2.toArray⟩ ds.length
  case neg =>
    have HNN : Hid (∀ k off n p t ds', OpRight k off n p t (List.length ds') → opBytes k off n p t ds' ≠ bs) := Lib.hid (fun k off n p t ds' hr hb => hR (HNO.out k off n p t ds' hr hb).1)
    have HEND : Hid (Same w (w10.setRow w.heap.size op0.toArray) ∧ Whole (w10.setRow w.heap.size op0.toArray) w.heap.size 25 op0) := Lib.hid
      ⟨HK10.out.setRow _ _ (.inl (Nat.le_refl _)), HR10.out.row⟩
    rw [decide_eq_false hR]
    clear hR HOP HNO HG10 HD10
    go_wp2_with (first
      | (refine wpList_buildTo (by rfl) 25 _ (by rfl) _ (by rfl) op0.toArray (by kernel_rfl) ?_)
      | (refine wpList_store_row (by rfl) 25 _ _ (by rfl) w.heap.size op0.toArray (by rfl) (by rfl) 25 op0.toArray HR10.out HIO.out rfl (op_all _ _ _ _ _ _ _ _) ?_))
    refine bodyPost_ret (v := .tuple #[.agg op0.toArray, .int .i64 22]) (results_row_tmp (p := 2) (u := 3) (ty := 25) rfl _ _ w.heap.size 25 _ (0, 0) _ (by rfl) HEND.out.2 Try.underlying25 rfl HIO.out) rfl
      ⟨HEND.out.1, 0, 0, 0, ⟨#[]⟩, ⟨#[]⟩, [], .slice none 0 0, 22, rfl, Reads.nil _ _ _, .inr ⟨HNN.out, rfl, rfl, rfl, rfl, rfl, rfl, rfl⟩⟩
  rw [decide_eq_true hR]
  have HRY := Lib.hid hR
  have HBS := Lib.hid (HOP.out HQ.out)
  have HEND : Hid (Same w (w10.setRow w.heap.size (opCells (n0 : Nat) (n1 : Nat) (n2 : Nat) ⟨p1.toArray⟩ ⟨p2.toArray⟩ (.slice ro ds.length rc)).toArray) ∧ Whole (w10.setRow w.heap.size (opCells (n0 : Nat) (n1 : Nat) (n2 : Nat) ⟨p1.toArray⟩ ⟨p2.toArray⟩ (.slice ro ds.length rc)).toArray) w.heap.size 25 (opCells (n0 : Nat) (n1 : Nat) (n2 : Nat) ⟨p1.toArray⟩ ⟨p2.toArray⟩ (.slice ro ds.length rc)) ∧ Reads (w10.setRow w.heap.size (opCells (n0 : Nat) (n1 : Nat) (n2 : Nat) ⟨p1.toArray⟩ ⟨p2.toArray⟩ (.slice ro ds.length rc)).toArray) (.slice ro ds.length rc) ds) := Lib.hid
    ⟨HK10.out.setRow _ _ (.inl (Nat.le_refl _)), HR10.out.row, Reads.past (B := w.heap.size) ⟨ro, rc, rfl, HD10.out, HS15.out, HC15.out⟩ HRP5.out ((Keeps.refl _ _).setRow _ _ (.inr rfl))⟩
  clear hR HOP HNO
  go_wp2_with (first
    | (refine wpList_load_row (by rfl) 25 _ (by rfl) G (by rfl) 25 (opCells (n0 : Nat) (n1 : Nat) (n2 : Nat) ⟨p1.toArray⟩ ⟨p2.toArray⟩ (.slice ro ds.length rc)).toArray (0, 0) _ HG10.out Try.underlying25 rfl HIO.out ?_)
    | (refine wpList_store_row (by rfl) 25 _ _ (by rfl) w.heap.size (opCells (n0 : Nat) (n1 : Nat) (n2 : Nat) ⟨p1.toArray⟩ ⟨p2.toArray⟩ (.slice ro ds.length rc)).toArray (by rfl) (by rfl) 25 op0.toArray HR10.out HIO.out rfl (op_all _ _ _ _ _ _ _ _) ?_))
  refine bodyPost_ret (v := .tuple #[.agg (opCells (n0 : Nat) (n1 : Nat) (n2 : Nat) ⟨p1.toArray⟩ ⟨p2.toArray⟩ (.slice ro ds.length rc)).toArray, .int .i64 0]) (results_row_tmp (p := 2) (u := 3) (ty := 25) rfl _ _ w.heap.size 25 _ (0, 0) _ (by rfl) HEND.out.2.1 Try.underlying25 rfl HIO.out) rfl
    ⟨HEND.out.1, n0, n1, n2, ⟨p1.toArray⟩, ⟨p2.toArray⟩, ds, .slice ro ds.length rc, 0, rfl, HEND.out.2.2, .inl ⟨HRY.out, HBS.out, rfl⟩⟩
end Go.Proofs.Ytickphkeeflbbaa
