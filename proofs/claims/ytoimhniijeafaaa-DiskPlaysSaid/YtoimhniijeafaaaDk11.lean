/- The document's example: speaks. -/
import Derived.Test.YtoimhniijeafaaaDk10
namespace Go.Proofs.Ytoimhniijeafaaa
open Go.RowKit
set_option linter.unusedVariables false

def st (L : List (List UInt8)) (O : List (Nat × List UInt8)) : DSt := ⟨L, O, false, 0, false⟩
theorem suff_one (o n : List UInt8) : suffered o n 1 = n := by unfold suffered; rw [if_pos (by decide)]
theorem suff_42 (o n : List UInt8) : suffered o n 42 = n.take 10 ++ o.drop 10 := by unfold suffered; rw [if_neg (by decide), if_pos (by decide)]; rfl
theorem bytes_lit (w : World) (t : TypeId) (x : Int) (b : UInt8) (c : Nat) (hb : x = (b.toNat : Int)) : Bytes (w.alloc (.cells #[.int .u8 x] t)) (.slice (some ⟨w.heap.size, 0, none⟩) 1 c) [b] := by
  refine .inl ⟨_, c, rfl, fun j b' hj => ?_⟩
  cases j with
  | zero =>
    obtain rfl : Value.int .u8 (b.toNat : Int) = b' := by simpa [u8s] using hj
    rw [hb]
    show World.cell? _ ⟨w.heap.size, 0, none⟩ = _
    rw [cell_of_row _ _ _ _ _ _ (heap_alloc_new w _)]
    rfl
  | succ j => simp [u8s] at hj
theorem ints_lit (w : World) (t : TypeId) (x : Int) (c : Nat) : Ints (w.alloc (.cells #[.int .i64 x] t)) (.slice (some ⟨w.heap.size, 0, none⟩) 1 c) [x] := by
  refine .inl ⟨_, c, rfl, fun j b' hj => ?_⟩
  cases j with
  | zero =>
    obtain rfl : x = b' := by simpa using hj
    show World.cell? _ ⟨w.heap.size, 0, none⟩ = _
    rw [cell_of_row _ _ _ _ _ _ (heap_alloc_new w _)]
    rfl
  | succ j => simp at hj
theorem dk_bytes (kd at' : Int) (ao fo : Option Addr) (n cap fl fc : Nat) (data B : List UInt8) (w : World) (hn : n = data.length) (hx : Bytes w (.slice ao n cap) data) (hB : filled data = B) :
    Calls Try.prog 13 #[opv kd at' (.slice ao n cap) false (.slice fo fl fc)] w fun e w' => ∃ g, e = .returned (.slice (some ⟨g, 0, none⟩) 512 512) ∧ w'.ownsRow w.heap.size 5 1 (.slice (some ⟨g, 0, none⟩) 512 512) 512 (u8s B) ∧ Same w w' := by
  subst hn; subst hB
  exact bytes_ok kd at' ao fo cap fl fc data w hx

/-- A disk made behind w, and rows that are not its own. -/
def SpI (w wr : World) (D : Nat) (F : Nat → Prop) (s : DSt) (R : List (Value × List UInt8)) : Prop :=
  Dk F wr D s ∧ Same w wr ∧ (∀ k, F k → w.heap.size ≤ k) ∧ ∀ p ∈ R, (∀ k, p.1.ownBlock = some k → ¬ F k) ∧ wr.ownsRow 0 5 1 p.1 512 (u8s p.2)
theorem SpI.same {w wr w' : World} {D : Nat} {F : Nat → Prop} {s : DSt} {R : List (Value × List UInt8)} (h : SpI w wr D F s R) (k : Same wr w') : SpI w w' D F s R :=
  ⟨h.1.same k, h.2.1.trans k (fun _ _ e => e), h.2.2.1, fun p hp => ⟨(h.2.2.2 p hp).1, own_keeps k (h.2.2.2 p hp).2 (fun _ _ e => e)⟩⟩
theorem SpI.step {w wr w' : World} {D : Nat} {F F' : Nat → Prop} {s s' : DSt} {R : List (Value × List UInt8)} (h : SpI w wr D F s R) (hd : Dk F' w' D s') (k : Keeps F wr w') (hg : Grow F F' wr) : SpI w w' D F' s' R := by
  refine ⟨hd, h.2.1.trans k (fun j hj e => by have := h.2.2.1 j e; omega), fun j e => ?_, fun p hp => ⟨fun j hj e => ?_, own_keeps k (h.2.2.2 p hp).2 (fun j hj e => (h.2.2.2 p hp).1 j hj e)⟩⟩
  · rcases hg j e with e | e
    · exact h.2.2.1 j e
    · have := h.2.1.size; omega
  · rcases hg _ e with e | e
    · exact (h.2.2.2 p hp).1 j hj e
    · have := ((h.2.2.2 p hp).2.lt j hj).2; omega
theorem SpI.row {w wr w' : World} {D : Nat} {F : Nat → Prop} {s : DSt} {R : List (Value × List UInt8)} (h : SpI w wr D F s R) (k : Same wr w') {v : Value} {A : List UInt8} (ho : w'.ownsRow wr.heap.size 5 1 v 512 (u8s A)) : SpI w w' D F s ((v, A) :: R) := by
  have h2 := h.same k
  refine ⟨h2.1, h2.2.1, h2.2.2.1, fun p hp => ?_⟩
  rcases List.mem_cons.1 hp with rfl | hp
  · refine ⟨fun j hj e => ?_, own_base ho (by omega)⟩
    have := h.1.lt _ e
    have := (ho.lt j hj).1
    omega
  · exact h2.2.2.2 p hp
theorem SpI.reads {w wr : World} {D : Nat} {F : Nat → Prop} {s : DSt} {R : List (Value × List UInt8)} (h : SpI w wr D F s R) {v : Value} {A : List UInt8} (hm : (v, A) ∈ R) (hl : A.length = 512) : Reads wr v A := Reads.of_own (h.2.2.2 _ hm).2 hl
theorem SpI.of_new {w w1 : World} {D : Nat} {F : Nat → Prop} {s : DSt} (hd : Dk F w1 D s) (hk : Same w w1) (hf : ∀ k, F k → w.heap.size ≤ k) : SpI w w1 D F s [] := ⟨hd, hk, hf, by simp⟩
theorem st_wrote (X Y B : List UInt8) : (st [X, Y] []).wrote 0 B = st [X, Y] [(0, B)] ∧ (st [X, Y] []).wrote 1 B = st [X, Y] [(1, B)] := by constructor <;> simp [DSt.wrote, st, DSt.spent]
theorem st_seen (X Y : List UInt8) : (st [X, Y] []).seen 0 = X ∧ (st [X, Y] []).seen 1 = Y := by constructor <;> simp [DSt.seen, st, seenAt]

set_option maxRecDepth 100000 in
set_option maxHeartbeats 6400000 in
theorem speaks_ok (w : World) :
    Calls Try.prog 9 #[] w fun e w' => e = .returned (.bool true) ∧ Same w w' := by
  obtain ⟨A, hA⟩ : ∃ A, filled [7] = A := ⟨_, rfl⟩
  have hAl : A.length = 512 := by rw [← hA]; exact filled_length _
  have hA9 : A.getD 9 0 = 7 := by rw [← hA]; decide +kernel
  have hZl : (A.take 10 ++ noughts.drop 10).length = 512 := by simp [hAl, noughts_length]
  have hZ9 : (A.take 10 ++ noughts.drop 10).getD 9 0 = 7 := by
    rw [← hA9, List.getD_eq_getElem?_getD, List.getD_eq_getElem?_getD, List.getElem?_append_left (by simp [hAl])]
    simp
  have hZX : (A.take 10 ++ noughts.drop 10).getD 10 0 = 0 := by
    rw [List.getD_eq_getElem?_getD, List.getElem?_append_right (by simp [hAl])]
    simp [hAl, noughts]
  generalize hZ : A.take 10 ++ noughts.drop 10 = Z at hZl hZ9 hZX
  have H1 := Lib.hid (st_wrote noughts noughts A).1
  have H2 : Hid ((st [noughts, noughts] [(0, A)]).flushed = st [A, noughts] []) := Lib.hid (by simp [DSt.flushed, DSt.power, DSt.spent, applied, st])
  have H3 := Lib.hid (st_wrote A noughts A).2
  have H4 : Hid ((st [A, noughts] [(1, A)]).crashed [] = st [A, noughts] []) := Lib.hid (by simp [DSt.crashed, st])
  have H5 : Hid ((st [A, noughts] [(1, A)]).crashed [1] = st [A, A] []) := Lib.hid (by simp [DSt.crashed, st, fated, suff_one])
  have H6 : Hid ((st [A, noughts] [(1, A)]).crashed [42] = st [A, Z] []) := Lib.hid (by simp [DSt.crashed, st, fated, suff_42, hZ])
  have HA := Lib.hid hA
  have HAL := Lib.hid hAl
  have HZL := Lib.hid hZl
  have HZ9' := Lib.hid hZ9
  have HZX' := Lib.hid hZX
  clear hA9 hA hAl hZl hZ9 hZX hZ
  go_enter Try.func9, Try.ntmps9
  go_wp2_with fail
  (refine (dk_new 2 _ (by decide) (by decide)).mono ?_); rintro e w1 ⟨D, F0, rfl, hd, hk, hf⟩
  have HI := Lib.hid (SpI.of_new (s := st [noughts, noughts] []) hd hk hf)
  clear hd hk hf
  go_wp2_with fail
  (refine (dk_bytes 0 0 _ none 1 1 0 0 [7] A _ rfl (bytes_lit w1 _ 7 7 1 (by decide)) HA.out).mono ?_); rintro e w2 ⟨g, rfl, ho, hk⟩
  have HI2 := Lib.hid ((HI.out.same ((Keeps.refl _ _).alloc _)).row hk ho)
  clear ho hk HI
  go_wp2_with fail
  (refine (dk_write w2 F0 D (st [noughts, noughts] []) 0 g 512 A HI2.out.1 (own_range (HI2.out.2.2.2 _ (List.mem_cons_self ..)).2) HAL.out ((HI2.out.2.2.2 _ (List.mem_cons_self ..)).1 g rfl) (by decide)).mono ?_); rintro e w3 ⟨F3, rfl, hd, hk, hg⟩
  rw [H1.out] at hd
  have HI3 := Lib.hid (HI2.out.step hd hk hg)
  clear hd hk hg HI2
  go_wp2_with fail
  (refine (dk_flush w3 F3 D _ HI3.out.1 (by simp [st])).mono ?_); rintro e w4 ⟨F4, rfl, hd, hk, hg⟩
  rw [H2.out] at hd
  have HI4 := Lib.hid (HI3.out.step hd hk hg)
  clear hd hk hg HI3
  go_wp2_with fail
  (refine (dk_write w4 F4 D (st [A, noughts] []) 1 g 512 A HI4.out.1 (own_range (HI4.out.2.2.2 _ (List.mem_cons_self ..)).2) HAL.out ((HI4.out.2.2.2 _ (List.mem_cons_self ..)).1 g rfl) (by simp [st])).mono ?_); rintro e w5 ⟨F5, rfl, hd, hk, hg⟩
  rw [H3.out] at hd
  have HI5 := Lib.hid (HI4.out.step hd hk hg)
  clear hd hk hg HI4
  go_wp2_with fail
  (refine (dk_crash w5 F5 D _ none 0 0 [] HI5.out.1 (by simp [st]) (by simp [st]) rfl (Ints.nil _ _ _)).mono ?_); rintro e w6 ⟨X, FX, rfl, hd, hk, _⟩
  rw [H4.out] at hd
  have HX := Lib.hid hd
  have HI6 := Lib.hid (HI5.out.same hk)
  clear hd hk HI5
  go_wp2_with fail
  (refine (dk_crash _ F5 D _ _ 1 1 [1] (HI6.out.same ((Keeps.refl _ _).alloc _)).1 (by simp [st]) (by simp [st]) rfl (ints_lit w6 _ 1 1)).mono ?_); rintro e w7 ⟨Y, FY, rfl, hd, hk, _⟩
  rw [H5.out] at hd
  have hk' := ((Keeps.refl (fun _ => False) w6).alloc _).trans hk (fun _ _ e => e)
  have HY := Lib.hid hd
  have HX7 := Lib.hid (HX.out.same hk')
  have HI7 := Lib.hid (HI6.out.same hk')
  clear hd hk hk' HI6 HX
  go_wp2_with fail
  (refine (dk_crash _ F5 D _ _ 1 1 [42] (HI7.out.same ((Keeps.refl _ _).alloc _)).1 (by simp [st]) (by simp [st]) rfl (ints_lit w7 _ 42 1)).mono ?_); rintro e w8 ⟨Z', FZ, rfl, hd, hk, _⟩
  rw [H6.out] at hd
  have hk' := ((Keeps.refl (fun _ => False) w7).alloc _).trans hk (fun _ _ e => e)
  have HZ := Lib.hid hd
  have HX8 := Lib.hid (HX7.out.same hk')
  have HY8 := Lib.hid (HY.out.same hk')
  have HI8 := Lib.hid (HI7.out.same hk')
  clear hd hk hk' HI7 HX7 HY
  go_wp2_with fail
  (refine (dk_read w8 FX X _ 0 HX8.out (by simp [st])).mono ?_); rintro e w9 ⟨va, rfl, ho, hk⟩
  rw [(st_seen A noughts).1, HAL.out] at ho
  have HRa := Lib.hid (Reads.of_own ho HAL.out)
  have HX9 := Lib.hid (HX8.out.same hk)
  have HY9 := Lib.hid (HY8.out.same hk)
  have HZ9 := Lib.hid (HZ.out.same hk)
  have HI9 := Lib.hid (HI8.out.same hk)
  clear ho hk HX8 HY8 HZ HI8
  go_wp2_with fail
  (refine (dk_read w9 FX X _ 1 HX9.out (by simp [st])).mono ?_); rintro e wa ⟨vb, rfl, ho, hk⟩
  rw [(st_seen A noughts).2, noughts_length] at ho
  have HRb := Lib.hid (Reads.of_own ho noughts_length)
  have HRa' := Lib.hid (HRa.out.same hk)
  have HYa := Lib.hid (HY9.out.same hk)
  have HZa := Lib.hid (HZ9.out.same hk)
  have HIa := Lib.hid (HI9.out.same hk)
  clear ho hk HX9 HY9 HZ9 HI9 HRa
  go_wp2_with fail
  (refine (dk_read wa FY Y _ 1 HYa.out (by simp [st])).mono ?_); rintro e wb ⟨vc, rfl, ho, hk⟩
  rw [(st_seen A A).2, HAL.out] at ho
  have HRc := Lib.hid (Reads.of_own ho HAL.out)
  have HRb' := Lib.hid (HRb.out.same hk)
  have HRa'' := Lib.hid (HRa'.out.same hk)
  have HZb := Lib.hid (HZa.out.same hk)
  have HIb := Lib.hid (HIa.out.same hk)
  clear ho hk HYa HZa HIa HRb HRa'
  go_wp2_with fail
  (refine (dk_read wb FZ Z' _ 1 HZb.out (by simp [st])).mono ?_); rintro e wc ⟨vz, rfl, ho, hk⟩
  rw [(st_seen A Z).2, HZL.out] at ho
  obtain ⟨gz, cz, rfl⟩ : ∃ gz cz, vz = .slice (some ⟨gz, 0, none⟩) 512 cz := by
    obtain ⟨gz, cz, e, _⟩ := ho.form (by decide)
    exact ⟨gz, cz, e⟩
  have HRc' := Lib.hid (HRc.out.same hk)
  have HRb := Lib.hid (HRb'.out.same hk)
  have HRa := Lib.hid (HRa''.out.same hk)
  have HI := Lib.hid (HIb.out.same hk)
  have HRo : Hid (Reads wc (.slice (some ⟨g, 0, none⟩) 512 512) A) := Lib.hid (Reads.of_own (HI.out.2.2.2 _ (List.mem_cons_self ..)).2 HAL.out)
  have HZ9 : Hid (∀ w', Same wc w' → w'.cell? ⟨gz, 9, none⟩ = some (.int .u8 7)) := Lib.hid (fun w' k => by
    have h := (own_cell (own_keeps k ho (fun _ _ e => e)) 9 (by decide)).1
    rw [HZ9'.out] at h; exact h)
  have HZX : Hid (∀ w', Same wc w' → w'.cell? ⟨gz, 10, none⟩ = some (.int .u8 0)) := Lib.hid (fun w' k => by
    have h := (own_cell (own_keeps k ho (fun _ _ e => e)) 10 (by decide)).1
    rw [HZX'.out] at h; exact h)
  clear ho hk HRc HRb' HRa'' HZb HIb
  have HRc := HRc'
  go_wp2_with fail
  refine wp_region_do [[], [0], [], [2], [1, 3], [4], [5], [6, 5], [5], [8, 5], [7, 9, 5], [5, 10], [11, 5], [12], [13, 12], [12], [15, 12], [14, 16, 12], [12, 17], [18, 12], [19], [20, 19], [21, 19], [19, 22], [23, 19], [24], [25, 24], [26, 24], [27, 24], [24, 28], [29, 24], [30], [31, 30], [32, 30], [33, 30], [30, 34], [35, 30, 0, 1, 2, 3, 4, 5, 6, 7, 8, 9, 10, 11, 12, 13, 14, 15, 16, 17, 18, 19, 20, 21, 22, 23, 24, 25, 26, 27, 28, 29, 30, 31, 32, 33, 34, 35]]
    [some 74, some 75, some 76, some 77, some 78, some 79, some 80, some 81, some 82, some 83, some 84, some 85, some 86, some 87, some 88, some 89, some 90, some 91, some 92, some 93, some 94, some 95, some 96, some 97, some 98, some 99, some 100, some 101, some 102, some 103, some 104, some 105, some 106, some 107, some 108, some 109, some 0]
    [.is (va), .is (strV A), .is (.slice (some ⟨g, 0, none⟩) 512 512), .is (strV A), .is (.bool true), .is (.bool true), .is (vb), .is (strV noughts), .reads noughts, .is (strV noughts), .is (.bool true), .is (.bool true), .is (.bool true), .is (vc), .is (strV A), .is (.slice (some ⟨g, 0, none⟩) 512 512), .is (strV A), .is (.bool true), .is (.bool true), .is (.bool true), .is (.slice (some ⟨gz, 0, none⟩) 512 cz), .is (.int .i64 512), .is (.bool true), .is (.bool true), .is (.bool true), .is (.slice (some ⟨gz, 0, none⟩) 512 cz), .is (.pointer (some ⟨gz, 9, none⟩)), .is (.int .u8 7), .is (.bool true), .is (.bool true), .is (.bool true), .is (.slice (some ⟨gz, 0, none⟩) 512 cz), .is (.pointer (some ⟨gz, 10, none⟩)), .is (.int .u8 0), .is (.bool true), .is (.bool true), .is (.bool true)]
    15 _ _ 110 37 (by kernel_rfl) (by rfl) (by rfl) (by kernel_rfl) (by kernel_rfl) (by decide) ?_ ?_
  · refine ⟨?_, ?_, ?_, ?_, ?_, ?_, ?_, ?_, ?_, ?_, ?_, ?_, ?_, ?_, ?_, ?_, ?_, ?_, ?_, ?_, ?_, ?_, ?_, ?_, ?_, ?_, ?_, ?_, ?_, ?_, ?_, ?_, ?_, ?_, ?_, ?_, ?_, trivial⟩
    · intro a w' K hs' hdep hfr hK
      have f7 := hfr 7 (by decide)
      exact plan_do (by rfl) (plan_yield (i := 0) (V := fun _ _ v => v = (va : Value)) (va) (by go_simp) rfl hK)
    · intro a w' K hs' hdep hfr hK
      have e74 : a.tmps[74]?.getD undef = (va) := hdep 0 (by decide) 74 rfl
      have k := run_reads (HRa.out.same hs')
      exact plan_do (by rfl) (plan_yield (i := 1) (V := fun _ _ v => v = (strV A : Value)) (strV A) (by go_simp) rfl hK)
    · intro a w' K hs' hdep hfr hK
      have f3 := hfr 3 (by decide)
      exact plan_do (by rfl) (plan_yield (i := 2) (V := fun _ _ v => v = (.slice (some ⟨g, 0, none⟩) 512 512 : Value)) (.slice (some ⟨g, 0, none⟩) 512 512) (by go_simp) rfl hK)
    · intro a w' K hs' hdep hfr hK
      have e76 : a.tmps[76]?.getD undef = (.slice (some ⟨g, 0, none⟩) 512 512) := hdep 2 (by decide) 76 rfl
      have k := run_reads (HRo.out.same hs')
      exact plan_do (by rfl) (plan_yield (i := 3) (V := fun _ _ v => v = (strV A : Value)) (strV A) (by go_simp) rfl hK)
    · intro a w' K hs' hdep hfr hK
      have e75 : a.tmps[75]?.getD undef = (strV A) := hdep 1 (by decide) 75 rfl
      have e77 : a.tmps[77]?.getD undef = (strV A) := hdep 3 (by decide) 77 rfl
      exact plan_do (by rfl) (plan_yield (i := 4) (V := fun _ _ v => v = (.bool true : Value)) (.bool true) (by go_simp) rfl hK)
    · intro a w' K hs' hdep hfr hK
      have e78 : a.tmps[78]?.getD undef = (.bool true) := hdep 4 (by decide) 78 rfl
      exact plan_do (by rfl) (plan_yield (i := 5) (V := fun _ _ v => v = (.bool true : Value)) (.bool true) (by go_simp) rfl hK)
    · intro a w' K hs' hdep hfr hK
      have e79 : a.tmps[79]?.getD undef = (.bool true) := hdep 5 (by decide) 79 rfl
      have f9 := hfr 9 (by decide)
      exact plan_do (wanted_of 5 79 true rfl rfl e79) (plan_yield (i := 6) (V := fun _ _ v => v = (vb : Value)) (vb) (by go_simp) rfl hK)
    · intro a w' K hs' hdep hfr hK
      have e80 : a.tmps[80]?.getD undef = (vb) := hdep 6 (by decide) 80 rfl
      have e79 : a.tmps[79]?.getD undef = (.bool true) := hdep 5 (by decide) 79 rfl
      have k := run_reads (HRb.out.same hs')
      exact plan_do (wanted_of 5 79 true rfl rfl e79) (plan_yield (i := 7) (V := fun _ _ v => v = (strV noughts : Value)) (strV noughts) (by go_simp) rfl hK)
    · intro a w' K hs' hdep hfr hK
      have e79 : a.tmps[79]?.getD undef = (.bool true) := hdep 5 (by decide) 79 rfl
      obtain ⟨w2, k, ks, kr⟩ := run_noughts w'
      exact plan_do (wanted_of 5 79 true rfl rfl e79) (plan_grow (i := 8) (V := fun _ w v => Reads w v noughts) _ (by go_simp) ks kr hK)
    · intro a w' K hs' hdep hfr hK
      have e79 : a.tmps[79]?.getD undef = (.bool true) := hdep 5 (by decide) 79 rfl
      have r82 : Reads w' (a.tmps[82]?.getD undef) noughts := hdep 8 (by decide) 82 rfl
      have k := run_reads r82
      exact plan_do (wanted_of 5 79 true rfl rfl e79) (plan_yield (i := 9) (V := fun _ _ v => v = (strV noughts : Value)) (strV noughts) (by go_simp) rfl hK)
    · intro a w' K hs' hdep hfr hK
      have e81 : a.tmps[81]?.getD undef = (strV noughts) := hdep 7 (by decide) 81 rfl
      have e83 : a.tmps[83]?.getD undef = (strV noughts) := hdep 9 (by decide) 83 rfl
      have e79 : a.tmps[79]?.getD undef = (.bool true) := hdep 5 (by decide) 79 rfl
      exact plan_do (wanted_of 5 79 true rfl rfl e79) (plan_yield (i := 10) (V := fun _ _ v => v = (.bool true : Value)) (.bool true) (by go_simp) rfl hK)
    · intro a w' K hs' hdep hfr hK
      have e79 : a.tmps[79]?.getD undef = (.bool true) := hdep 5 (by decide) 79 rfl
      have e84 : a.tmps[84]?.getD undef = (.bool true) := hdep 10 (by decide) 84 rfl
      exact plan_do (by rfl) (plan_yield (i := 11) (V := fun _ _ v => v = (.bool true : Value)) (.bool true) (by go_simp) rfl hK)
    · intro a w' K hs' hdep hfr hK
      have e85 : a.tmps[85]?.getD undef = (.bool true) := hdep 11 (by decide) 85 rfl
      have e79 : a.tmps[79]?.getD undef = (.bool true) := hdep 5 (by decide) 79 rfl
      exact plan_do (by rfl) (plan_yield (i := 12) (V := fun _ _ v => v = (.bool true : Value)) (.bool true) (by go_simp) rfl hK)
    · intro a w' K hs' hdep hfr hK
      have e86 : a.tmps[86]?.getD undef = (.bool true) := hdep 12 (by decide) 86 rfl
      have f11 := hfr 11 (by decide)
      exact plan_do (wanted_of 12 86 true rfl rfl e86) (plan_yield (i := 13) (V := fun _ _ v => v = (vc : Value)) (vc) (by go_simp) rfl hK)
    · intro a w' K hs' hdep hfr hK
      have e87 : a.tmps[87]?.getD undef = (vc) := hdep 13 (by decide) 87 rfl
      have e86 : a.tmps[86]?.getD undef = (.bool true) := hdep 12 (by decide) 86 rfl
      have k := run_reads (HRc.out.same hs')
      exact plan_do (wanted_of 12 86 true rfl rfl e86) (plan_yield (i := 14) (V := fun _ _ v => v = (strV A : Value)) (strV A) (by go_simp) rfl hK)
    · intro a w' K hs' hdep hfr hK
      have e86 : a.tmps[86]?.getD undef = (.bool true) := hdep 12 (by decide) 86 rfl
      have f3 := hfr 3 (by decide)
      exact plan_do (wanted_of 12 86 true rfl rfl e86) (plan_yield (i := 15) (V := fun _ _ v => v = (.slice (some ⟨g, 0, none⟩) 512 512 : Value)) (.slice (some ⟨g, 0, none⟩) 512 512) (by go_simp) rfl hK)
    · intro a w' K hs' hdep hfr hK
      have e89 : a.tmps[89]?.getD undef = (.slice (some ⟨g, 0, none⟩) 512 512) := hdep 15 (by decide) 89 rfl
      have e86 : a.tmps[86]?.getD undef = (.bool true) := hdep 12 (by decide) 86 rfl
      have k := run_reads (HRo.out.same hs')
      exact plan_do (wanted_of 12 86 true rfl rfl e86) (plan_yield (i := 16) (V := fun _ _ v => v = (strV A : Value)) (strV A) (by go_simp) rfl hK)
    · intro a w' K hs' hdep hfr hK
      have e88 : a.tmps[88]?.getD undef = (strV A) := hdep 14 (by decide) 88 rfl
      have e90 : a.tmps[90]?.getD undef = (strV A) := hdep 16 (by decide) 90 rfl
      have e86 : a.tmps[86]?.getD undef = (.bool true) := hdep 12 (by decide) 86 rfl
      exact plan_do (wanted_of 12 86 true rfl rfl e86) (plan_yield (i := 17) (V := fun _ _ v => v = (.bool true : Value)) (.bool true) (by go_simp) rfl hK)
    · intro a w' K hs' hdep hfr hK
      have e86 : a.tmps[86]?.getD undef = (.bool true) := hdep 12 (by decide) 86 rfl
      have e91 : a.tmps[91]?.getD undef = (.bool true) := hdep 17 (by decide) 91 rfl
      exact plan_do (by rfl) (plan_yield (i := 18) (V := fun _ _ v => v = (.bool true : Value)) (.bool true) (by go_simp) rfl hK)
    · intro a w' K hs' hdep hfr hK
      have e92 : a.tmps[92]?.getD undef = (.bool true) := hdep 18 (by decide) 92 rfl
      have e86 : a.tmps[86]?.getD undef = (.bool true) := hdep 12 (by decide) 86 rfl
      exact plan_do (by rfl) (plan_yield (i := 19) (V := fun _ _ v => v = (.bool true : Value)) (.bool true) (by go_simp) rfl hK)
    · intro a w' K hs' hdep hfr hK
      have e93 : a.tmps[93]?.getD undef = (.bool true) := hdep 19 (by decide) 93 rfl
      have f13 := hfr 13 (by decide)
      exact plan_do (wanted_of 19 93 true rfl rfl e93) (plan_yield (i := 20) (V := fun _ _ v => v = (.slice (some ⟨gz, 0, none⟩) 512 cz : Value)) (.slice (some ⟨gz, 0, none⟩) 512 cz) (by go_simp) rfl hK)
    · intro a w' K hs' hdep hfr hK
      have e94 : a.tmps[94]?.getD undef = (.slice (some ⟨gz, 0, none⟩) 512 cz) := hdep 20 (by decide) 94 rfl
      have e93 : a.tmps[93]?.getD undef = (.bool true) := hdep 19 (by decide) 93 rfl
      exact plan_do (wanted_of 19 93 true rfl rfl e93) (plan_yield (i := 21) (V := fun _ _ v => v = (.int .i64 512 : Value)) (.int .i64 512) (by go_simp) rfl hK)
    · intro a w' K hs' hdep hfr hK
      have e95 : a.tmps[95]?.getD undef = (.int .i64 512) := hdep 21 (by decide) 95 rfl
      have e93 : a.tmps[93]?.getD undef = (.bool true) := hdep 19 (by decide) 93 rfl
      exact plan_do (wanted_of 19 93 true rfl rfl e93) (plan_yield (i := 22) (V := fun _ _ v => v = (.bool true : Value)) (.bool true) (by go_simp) rfl hK)
    · intro a w' K hs' hdep hfr hK
      have e93 : a.tmps[93]?.getD undef = (.bool true) := hdep 19 (by decide) 93 rfl
      have e96 : a.tmps[96]?.getD undef = (.bool true) := hdep 22 (by decide) 96 rfl
      exact plan_do (by rfl) (plan_yield (i := 23) (V := fun _ _ v => v = (.bool true : Value)) (.bool true) (by go_simp) rfl hK)
    · intro a w' K hs' hdep hfr hK
      have e97 : a.tmps[97]?.getD undef = (.bool true) := hdep 23 (by decide) 97 rfl
      have e93 : a.tmps[93]?.getD undef = (.bool true) := hdep 19 (by decide) 93 rfl
      exact plan_do (by rfl) (plan_yield (i := 24) (V := fun _ _ v => v = (.bool true : Value)) (.bool true) (by go_simp) rfl hK)
    · intro a w' K hs' hdep hfr hK
      have e98 : a.tmps[98]?.getD undef = (.bool true) := hdep 24 (by decide) 98 rfl
      have f13 := hfr 13 (by decide)
      exact plan_do (wanted_of 24 98 true rfl rfl e98) (plan_yield (i := 25) (V := fun _ _ v => v = (.slice (some ⟨gz, 0, none⟩) 512 cz : Value)) (.slice (some ⟨gz, 0, none⟩) 512 cz) (by go_simp) rfl hK)
    · intro a w' K hs' hdep hfr hK
      have e99 : a.tmps[99]?.getD undef = (.slice (some ⟨gz, 0, none⟩) 512 cz) := hdep 25 (by decide) 99 rfl
      have e98 : a.tmps[98]?.getD undef = (.bool true) := hdep 24 (by decide) 98 rfl
      exact plan_do (wanted_of 24 98 true rfl rfl e98) (plan_yield (i := 26) (V := fun _ _ v => v = (.pointer (some ⟨gz, 9, none⟩) : Value)) (.pointer (some ⟨gz, 9, none⟩)) (by go_simp) rfl hK)
    · intro a w' K hs' hdep hfr hK
      have e100 : a.tmps[100]?.getD undef = (.pointer (some ⟨gz, 9, none⟩)) := hdep 26 (by decide) 100 rfl
      have e98 : a.tmps[98]?.getD undef = (.bool true) := hdep 24 (by decide) 98 rfl
      have kl := HZ9.out w' hs'
      exact plan_do (wanted_of 24 98 true rfl rfl e98) (plan_yield (i := 27) (V := fun _ _ v => v = (.int .u8 7 : Value)) (.int .u8 7) (by go_simp) rfl hK)
    · intro a w' K hs' hdep hfr hK
      have e101 : a.tmps[101]?.getD undef = (.int .u8 7) := hdep 27 (by decide) 101 rfl
      have e98 : a.tmps[98]?.getD undef = (.bool true) := hdep 24 (by decide) 98 rfl
      exact plan_do (wanted_of 24 98 true rfl rfl e98) (plan_yield (i := 28) (V := fun _ _ v => v = (.bool true : Value)) (.bool true) (by go_simp) rfl hK)
    · intro a w' K hs' hdep hfr hK
      have e98 : a.tmps[98]?.getD undef = (.bool true) := hdep 24 (by decide) 98 rfl
      have e102 : a.tmps[102]?.getD undef = (.bool true) := hdep 28 (by decide) 102 rfl
      exact plan_do (by rfl) (plan_yield (i := 29) (V := fun _ _ v => v = (.bool true : Value)) (.bool true) (by go_simp) rfl hK)
    · intro a w' K hs' hdep hfr hK
      have e103 : a.tmps[103]?.getD undef = (.bool true) := hdep 29 (by decide) 103 rfl
      have e98 : a.tmps[98]?.getD undef = (.bool true) := hdep 24 (by decide) 98 rfl
      exact plan_do (by rfl) (plan_yield (i := 30) (V := fun _ _ v => v = (.bool true : Value)) (.bool true) (by go_simp) rfl hK)
    · intro a w' K hs' hdep hfr hK
      have e104 : a.tmps[104]?.getD undef = (.bool true) := hdep 30 (by decide) 104 rfl
      have f13 := hfr 13 (by decide)
      exact plan_do (wanted_of 30 104 true rfl rfl e104) (plan_yield (i := 31) (V := fun _ _ v => v = (.slice (some ⟨gz, 0, none⟩) 512 cz : Value)) (.slice (some ⟨gz, 0, none⟩) 512 cz) (by go_simp) rfl hK)
    · intro a w' K hs' hdep hfr hK
      have e105 : a.tmps[105]?.getD undef = (.slice (some ⟨gz, 0, none⟩) 512 cz) := hdep 31 (by decide) 105 rfl
      have e104 : a.tmps[104]?.getD undef = (.bool true) := hdep 30 (by decide) 104 rfl
      exact plan_do (wanted_of 30 104 true rfl rfl e104) (plan_yield (i := 32) (V := fun _ _ v => v = (.pointer (some ⟨gz, 10, none⟩) : Value)) (.pointer (some ⟨gz, 10, none⟩)) (by go_simp) rfl hK)
    · intro a w' K hs' hdep hfr hK
      have e106 : a.tmps[106]?.getD undef = (.pointer (some ⟨gz, 10, none⟩)) := hdep 32 (by decide) 106 rfl
      have e104 : a.tmps[104]?.getD undef = (.bool true) := hdep 30 (by decide) 104 rfl
      have kl := HZX.out w' hs'
      exact plan_do (wanted_of 30 104 true rfl rfl e104) (plan_yield (i := 33) (V := fun _ _ v => v = (.int .u8 0 : Value)) (.int .u8 0) (by go_simp) rfl hK)
    · intro a w' K hs' hdep hfr hK
      have e107 : a.tmps[107]?.getD undef = (.int .u8 0) := hdep 33 (by decide) 107 rfl
      have e104 : a.tmps[104]?.getD undef = (.bool true) := hdep 30 (by decide) 104 rfl
      exact plan_do (wanted_of 30 104 true rfl rfl e104) (plan_yield (i := 34) (V := fun _ _ v => v = (.bool true : Value)) (.bool true) (by go_simp) rfl hK)
    · intro a w' K hs' hdep hfr hK
      have e104 : a.tmps[104]?.getD undef = (.bool true) := hdep 30 (by decide) 104 rfl
      have e108 : a.tmps[108]?.getD undef = (.bool true) := hdep 34 (by decide) 108 rfl
      exact plan_do (by rfl) (plan_yield (i := 35) (V := fun _ _ v => v = (.bool true : Value)) (.bool true) (by go_simp) rfl hK)
    · intro a w' K hs' hdep hfr hK
      have e109 : a.tmps[109]?.getD undef = (.bool true) := hdep 35 (by decide) 109 rfl
      have e104 : a.tmps[104]?.getD undef = (.bool true) := hdep 30 (by decide) 104 rfl
      have e74 : a.tmps[74]?.getD undef = (va) := hdep 0 (by decide) 74 rfl
      have e75 : a.tmps[75]?.getD undef = (strV A) := hdep 1 (by decide) 75 rfl
      have e76 : a.tmps[76]?.getD undef = (.slice (some ⟨g, 0, none⟩) 512 512) := hdep 2 (by decide) 76 rfl
      have e77 : a.tmps[77]?.getD undef = (strV A) := hdep 3 (by decide) 77 rfl
      have e78 : a.tmps[78]?.getD undef = (.bool true) := hdep 4 (by decide) 78 rfl
      have e79 : a.tmps[79]?.getD undef = (.bool true) := hdep 5 (by decide) 79 rfl
      have e80 : a.tmps[80]?.getD undef = (vb) := hdep 6 (by decide) 80 rfl
      have e81 : a.tmps[81]?.getD undef = (strV noughts) := hdep 7 (by decide) 81 rfl
      have e83 : a.tmps[83]?.getD undef = (strV noughts) := hdep 9 (by decide) 83 rfl
      have e84 : a.tmps[84]?.getD undef = (.bool true) := hdep 10 (by decide) 84 rfl
      have e85 : a.tmps[85]?.getD undef = (.bool true) := hdep 11 (by decide) 85 rfl
      have e86 : a.tmps[86]?.getD undef = (.bool true) := hdep 12 (by decide) 86 rfl
      have e87 : a.tmps[87]?.getD undef = (vc) := hdep 13 (by decide) 87 rfl
      have e88 : a.tmps[88]?.getD undef = (strV A) := hdep 14 (by decide) 88 rfl
      have e89 : a.tmps[89]?.getD undef = (.slice (some ⟨g, 0, none⟩) 512 512) := hdep 15 (by decide) 89 rfl
      have e90 : a.tmps[90]?.getD undef = (strV A) := hdep 16 (by decide) 90 rfl
      have e91 : a.tmps[91]?.getD undef = (.bool true) := hdep 17 (by decide) 91 rfl
      have e92 : a.tmps[92]?.getD undef = (.bool true) := hdep 18 (by decide) 92 rfl
      have e93 : a.tmps[93]?.getD undef = (.bool true) := hdep 19 (by decide) 93 rfl
      have e94 : a.tmps[94]?.getD undef = (.slice (some ⟨gz, 0, none⟩) 512 cz) := hdep 20 (by decide) 94 rfl
      have e95 : a.tmps[95]?.getD undef = (.int .i64 512) := hdep 21 (by decide) 95 rfl
      have e96 : a.tmps[96]?.getD undef = (.bool true) := hdep 22 (by decide) 96 rfl
      have e97 : a.tmps[97]?.getD undef = (.bool true) := hdep 23 (by decide) 97 rfl
      have e98 : a.tmps[98]?.getD undef = (.bool true) := hdep 24 (by decide) 98 rfl
      have e99 : a.tmps[99]?.getD undef = (.slice (some ⟨gz, 0, none⟩) 512 cz) := hdep 25 (by decide) 99 rfl
      have e100 : a.tmps[100]?.getD undef = (.pointer (some ⟨gz, 9, none⟩)) := hdep 26 (by decide) 100 rfl
      have e101 : a.tmps[101]?.getD undef = (.int .u8 7) := hdep 27 (by decide) 101 rfl
      have e102 : a.tmps[102]?.getD undef = (.bool true) := hdep 28 (by decide) 102 rfl
      have e103 : a.tmps[103]?.getD undef = (.bool true) := hdep 29 (by decide) 103 rfl
      have e105 : a.tmps[105]?.getD undef = (.slice (some ⟨gz, 0, none⟩) 512 cz) := hdep 31 (by decide) 105 rfl
      have e106 : a.tmps[106]?.getD undef = (.pointer (some ⟨gz, 10, none⟩)) := hdep 32 (by decide) 106 rfl
      have e107 : a.tmps[107]?.getD undef = (.int .u8 0) := hdep 33 (by decide) 107 rfl
      have e108 : a.tmps[108]?.getD undef = (.bool true) := hdep 34 (by decide) 108 rfl
      exact plan_do (by rfl) (plan_yield (i := 36) (V := fun _ _ v => v = (.bool true : Value)) (.bool true) (by go_simp) rfl hK)
  intro a w9 hk9 hdef hsz hv hfr
  have eL : a.tmps[0]?.getD undef = .bool true := hv 36 0 rfl
  go_wp2
  refine bodyPost_ret (results_tmp (t := 0) rfl _ _ _) hdef ⟨?_, HI.out.2.1.trans hk9 (fun _ _ e => e)⟩
  rw [Array.getD_eq_getD_getElem?, eL]
end Go.Proofs.Ytoimhniijeafaaa
