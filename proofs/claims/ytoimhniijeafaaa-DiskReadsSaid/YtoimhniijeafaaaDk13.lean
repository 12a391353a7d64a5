/- Six sectors; the walk of DiskReads. -/
import Derived.Test.YtoimhniijeafaaaDk11
namespace Go.Proofs.Ytoimhniijeafaaa
open Go.RowKit
set_option linter.unusedVariables false
def stn (n : Nat) (O : List (Nat × List UInt8)) : DSt := ⟨List.replicate n noughts, O, false, 0, false⟩
theorem stn_new (n : Nat) : DSt.new n = stn n [] := rfl
theorem stn_wcode {n : Nat} {O : List (Nat × List UInt8)} {p : Nat} (h : p < n) : (stn n O).wcode (p : Int) = 0 := by simp [DSt.wcode, stn, DSt.power, h]
theorem stn_rcode {n : Nat} {O : List (Nat × List UInt8)} {p : Nat} (h : p < n) : (stn n O).rcode (p : Int) = 0 := by simp [DSt.rcode, stn, h]
theorem stn_wrote {n : Nat} {O : List (Nat × List UInt8)} {p : Nat} (h : p < n) (B : List UInt8) : (stn n O).wrote (p : Int) B = stn n (O ++ [(p, B)]) := by simp [DSt.wrote, stn, DSt.spent, h]
theorem stn_seen {n : Nat} {O : List (Nat × List UInt8)} {p : Nat} (h : p < n) : (stn n O).seen (p : Int) = O.foldl (fun x o => if o.1 = p then o.2 else x) noughts := by
  simp [DSt.seen, stn, seenAt, h, List.getD_eq_getElem?_getD]

set_option maxRecDepth 100000 in
set_option maxHeartbeats 6400000 in
theorem reads_ok (w : World) (ao bo : Option Addr) (na nb ca cb : Nat) (da db : List UInt8) (i : Int) (hna : na = da.length) (hnb : nb = db.length) (ha : Bytes w (.slice ao na ca) da) (hb : Bytes w (.slice bo nb cb) db) :
    Calls Try.prog 7 #[.slice ao na ca, .slice bo nb cb, .int .i64 i] w fun e w' => e = .returned (.bool true) ∧ Same w w' := by
  obtain ⟨X, hX⟩ : ∃ X, filled da = X := ⟨_, rfl⟩
  obtain ⟨Y, hY⟩ : ∃ Y, filled db = Y := ⟨_, rfl⟩
  have HXL : Hid (X.length = 512) := Lib.hid (by rw [← hX]; exact filled_length _)
  have HYL : Hid (Y.length = 512) := Lib.hid (by rw [← hY]; exact filled_length _)
  have HX := Lib.hid hX
  have HY := Lib.hid hY
  have HNA := Lib.hid hna
  have HNB := Lib.hid hnb
  have HAR := Lib.hid ha
  have HBR := Lib.hid hb
  obtain ⟨k, hk0⟩ : ∃ k : Nat, i % 1024 = (k : Int) := ⟨(i % 1024).toNat, by omega⟩
  obtain ⟨p, hp0⟩ : ∃ p, k % 6 = p := ⟨_, rfl⟩
  obtain ⟨q, hq0⟩ : ∃ q, (p + 1) % 6 = q := ⟨_, rfl⟩
  obtain ⟨r, hr0⟩ : ∃ r, (p + 2) % 6 = r := ⟨_, rfl⟩
  have hp6 : p < 6 := by omega
  have hq6 : q < 6 := by omega
  have hr6 : r < 6 := by omega
  have n1 : ¬ q = p := by omega
  have n2 : ¬ p = q := by omega
  have n3 : ¬ p = r := by omega
  have n4 : ¬ q = r := by omega
  have e1 : bits BinOp.and IntKind.i64 i 1023 = (k : Int) := by rw [and_1023', hk0]
  have hkb : k < 1024 := by omega
  have e2 : (k : Int).tmod 6 = (p : Int) := by rw [Int.tmod_eq_emod_of_nonneg (by omega)]; omega
  have e3 : ((p : Int) + 1).tmod 6 = (q : Int) := by rw [Int.tmod_eq_emod_of_nonneg (by omega)]; omega
  have e4 : ((p : Int) + 2).tmod 6 = (r : Int) := by rw [Int.tmod_eq_emod_of_nonneg (by omega)]; omega
  have e5 : IntKind.i64.wrap (p : Int) = (p : Int) := IntWalk.i64_in _ (by omega)
  have e6 : IntKind.i64.wrap (q : Int) = (q : Int) := IntWalk.i64_in _ (by omega)
  have e7 : IntKind.i64.wrap (r : Int) = (r : Int) := IntWalk.i64_in _ (by omega)
  have e8 : IntKind.i64.wrap ((p : Int) + 1) = (p : Int) + 1 := IntWalk.i64_in _ (by omega)
  have e9 : IntKind.i64.wrap ((p : Int) + 2) = (p : Int) + 2 := IntWalk.i64_in _ (by omega)
  have HP := Lib.hid hp6
  have HQ := Lib.hid hq6
  have HR := Lib.hid hr6
  have S1 : Hid ([(p, X), (q, Y)].foldl (fun x o => if o.1 = p then o.2 else x) noughts = X) := Lib.hid (by simp [n1])
  have S2 : Hid ([(p, X), (q, Y)].foldl (fun x o => if o.1 = q then o.2 else x) noughts = Y) := Lib.hid (by simp)
  have S3 : Hid ([(p, X), (q, Y)].foldl (fun x o => if o.1 = r then o.2 else x) noughts = noughts) := Lib.hid (by simp [n3, n4])
  have S4 : Hid ([(p, X), (q, Y), (p, Y)].foldl (fun x o => if o.1 = p then o.2 else x) noughts = Y) := Lib.hid (by simp)
  clear hk0 hp0 hq0 hr0 hp6 hq6 hr6 n1 n2 n3 n4 hX hY ha hb hkb hna hnb
  go_enter Try.func7, Try.ntmps7
  go_wp2_with fail
  (refine (speaks_ok _).mono ?_); rintro e w0 ⟨rfl, hk0⟩
  have HK0 := Lib.hid hk0
  clear hk0
  go_wp2_with fail
  (refine (dk_new 6 _ (by decide) (by decide)).mono ?_); rintro e w1 ⟨D, F0, rfl, hd, hk, hf⟩
  rw [show Int.toNat 6 = 6 from rfl, stn_new] at hd
  have HI := Lib.hid (SpI.of_new hd (HK0.out.trans hk (fun _ _ e => e)) (fun k e => by have := hf k e; have := HK0.out.size; omega))
  clear hd hk hf HK0
  go_wp2_with fail
  (refine (dk_bytes 0 0 _ none na ca 0 0 da X w1 HNA.out (HAR.out.same HI.out.2.1) HX.out).mono ?_); rintro e w2 ⟨gx, rfl, ho, hk⟩
  have HI2 := Lib.hid (HI.out.row hk ho)
  clear ho hk HI HAR
  go_wp2_with fail
  (refine (dk_bytes 0 0 _ none nb cb 0 0 db Y w2 HNB.out (HBR.out.same HI2.out.2.1) HY.out).mono ?_); rintro e w3 ⟨gy, rfl, ho, hk⟩
  have HI3 := Lib.hid (HI2.out.row hk ho)
  clear ho hk HI2 HBR
  go_wp2_with fail
  (refine (dk_write w3 F0 D (stn 6 []) (p : Int) gx 512 X HI3.out.1 (own_range (HI3.out.2.2.2 _ (List.mem_cons_of_mem _ (List.mem_cons_self ..))).2) HXL.out ((HI3.out.2.2.2 _ (List.mem_cons_of_mem _ (List.mem_cons_self ..))).1 gx rfl) (by simp [stn])).mono ?_); rintro e w4 ⟨F4, he, hd, hk, hg⟩
  rw [stn_wcode HP.out] at he
  subst he
  rw [stn_wrote HP.out] at hd
  simp only [List.nil_append] at hd
  have HI4 := Lib.hid (HI3.out.step hd hk hg)
  clear hd hk hg HI3
  go_wp2_with fail
  (refine (dk_write w4 F4 D _ (q : Int) gy 512 Y HI4.out.1 (own_range (HI4.out.2.2.2 _ (List.mem_cons_self ..)).2) HYL.out ((HI4.out.2.2.2 _ (List.mem_cons_self ..)).1 gy rfl) (by simp [stn])).mono ?_); rintro e w5 ⟨F5, he, hd, hk, hg⟩
  rw [stn_wcode HQ.out] at he
  subst he
  rw [stn_wrote HQ.out] at hd
  simp only [List.nil_append, List.cons_append] at hd
  have HI5 := Lib.hid (HI4.out.step hd hk hg)
  clear hd hk hg HI4
  go_wp2_with fail
  (refine (dk_read w5 F5 D _ (p : Int) HI5.out.1 (by simp [stn])).mono ?_); rintro e w6 ⟨vr, he, ho, hk⟩
  rw [stn_rcode HP.out] at he
  subst he
  rw [stn_seen HP.out, S1.out, HXL.out] at ho
  have HI6 := Lib.hid (HI5.out.row hk ho)
  clear ho hk HI5
  go_wp2_with fail
  (refine (dk_read w6 F5 D _ (q : Int) HI6.out.1 (by simp [stn])).mono ?_); rintro e w7 ⟨vs, he, ho, hk⟩
  rw [stn_rcode HQ.out] at he
  subst he
  rw [stn_seen HQ.out, S2.out, HYL.out] at ho
  have HI7 := Lib.hid (HI6.out.row hk ho)
  clear ho hk HI6
  go_wp2_with fail
  (refine (dk_read w7 F5 D _ (r : Int) HI7.out.1 (by simp [stn])).mono ?_); rintro e w8 ⟨vt, he, ho, hk⟩
  rw [stn_rcode HR.out] at he
  subst he
  rw [stn_seen HR.out, S3.out, noughts_length] at ho
  have HI8 := Lib.hid (HI7.out.row hk ho)
  clear ho hk HI7
  go_wp2_with fail
  (refine (dk_write w8 F5 D _ (p : Int) gy 512 Y HI8.out.1 (own_range (HI8.out.2.2.2 _ (List.mem_cons_of_mem _ (List.mem_cons_of_mem _ (List.mem_cons_of_mem _ (List.mem_cons_self ..))))).2) HYL.out ((HI8.out.2.2.2 _ (List.mem_cons_of_mem _ (List.mem_cons_of_mem _ (List.mem_cons_of_mem _ (List.mem_cons_self ..))))).1 gy rfl) (by simp [stn])).mono ?_); rintro e w9 ⟨F9, he, hd, hk, hg⟩
  rw [stn_wcode HP.out] at he
  subst he
  rw [stn_wrote HP.out] at hd
  simp only [List.nil_append, List.cons_append] at hd
  have HI9 := Lib.hid (HI8.out.step hd hk hg)
  clear hd hk hg HI8
  go_wp2_with fail
  (refine (dk_read w9 F9 D _ (p : Int) HI9.out.1 (by simp [stn])).mono ?_); rintro e wa ⟨vu, he, ho, hk⟩
  rw [stn_rcode HP.out] at he
  subst he
  rw [stn_seen HP.out, S4.out, HYL.out] at ho
  have HIa := Lib.hid (HI9.out.row hk ho)
  clear ho hk HI9
  have HRr := Lib.hid (HIa.out.reads (v := vr) (A := X) (by simp) HXL.out)
  have HRs := Lib.hid (HIa.out.reads (v := vs) (A := Y) (by simp) HYL.out)
  have HRt := Lib.hid (HIa.out.reads (v := vt) (A := noughts) (by simp) noughts_length)
  have HRu := Lib.hid (HIa.out.reads (v := vu) (A := Y) (by simp) HYL.out)
  have HRx := Lib.hid (HIa.out.reads (v := .slice (some ⟨gx, 0, none⟩) 512 512) (A := X) (by simp) HXL.out)
  have HRy := Lib.hid (HIa.out.reads (v := .slice (some ⟨gy, 0, none⟩) 512 512) (A := Y) (by simp) HYL.out)
  clear e1 e2 e3 e4 e5 e6 e7 e8 e9
  go_wp2_with fail
  refine wp_region_do [[], [0], [1], [2], [3, 2], [2, 4], [5, 2], [6], [7, 6], [6, 8], [9, 6], [10], [11, 10], [10, 12], [13, 10], [14], [15, 14], [14, 16], [17, 14], [18], [19, 18], [18, 20], [21, 18], [22], [23, 22], [22], [25, 22], [24, 26, 22], [22, 27], [28, 22], [29], [30, 29], [29], [32, 29], [31, 33, 29], [29, 34], [35, 29], [36], [37, 36], [36], [39, 36], [38, 40, 36], [36, 41], [42, 36], [43], [44, 43], [43], [46, 43], [45, 47, 43], [43, 48], [49, 43, 0, 1, 2, 3, 4, 5, 6, 7, 8, 9, 10, 11, 12, 13, 14, 15, 16, 17, 18, 19, 20, 21, 22, 23, 24, 25, 26, 27, 28, 29, 30, 31, 32, 33, 34, 35, 36, 37, 38, 39, 40, 41, 42, 43, 44, 45, 46, 47, 48, 49]]
    [some 81, some 82, some 83, some 84, some 85, some 86, some 87, some 88, some 89, some 90, some 91, some 92, some 93, some 94, some 95, some 96, some 97, some 98, some 99, some 100, some 101, some 102, some 103, some 104, some 105, some 106, some 107, some 108, some 109, some 110, some 111, some 112, some 113, some 114, some 115, some 116, some 117, some 118, some 119, some 120, some 121, some 122, some 123, some 124, some 125, some 126, some 127, some 128, some 129, some 130, some 6]
    [.is (.int .i64 0), .is (.bool true), .is (.bool true), .is (.int .i64 0), .is (.bool true), .is (.bool true), .is (.bool true), .is (.int .i64 0), .is (.bool true), .is (.bool true), .is (.bool true), .is (.int .i64 0), .is (.bool true), .is (.bool true), .is (.bool true), .is (.int .i64 0), .is (.bool true), .is (.bool true), .is (.bool true), .is (.int .i64 0), .is (.bool true), .is (.bool true), .is (.bool true), .is (vr), .is (strV X), .is (.slice (some ⟨gx, 0, none⟩) 512 512), .is (strV X), .is (.bool true), .is (.bool true), .is (.bool true), .is (vs), .is (strV Y), .is (.slice (some ⟨gy, 0, none⟩) 512 512), .is (strV Y), .is (.bool true), .is (.bool true), .is (.bool true), .is (vt), .is (strV noughts), .reads noughts, .is (strV noughts), .is (.bool true), .is (.bool true), .is (.bool true), .is (vu), .is (strV Y), .is (.slice (some ⟨gy, 0, none⟩) 512 512), .is (strV Y), .is (.bool true), .is (.bool true), .is (.bool true)]
    14 _ _ 131 51 (by kernel_rfl) (by rfl) (by rfl) (by kernel_rfl) (by kernel_rfl) (by decide) ?_ ?_
  · refine ⟨?_, ?_, ?_, ?_, ?_, ?_, ?_, ?_, ?_, ?_, ?_, ?_, ?_, ?_, ?_, ?_, ?_, ?_, ?_, ?_, ?_, ?_, ?_, ?_, ?_, ?_, ?_, ?_, ?_, ?_, ?_, ?_, ?_, ?_, ?_, ?_, ?_, ?_, ?_, ?_, ?_, ?_, ?_, ?_, ?_, ?_, ?_, ?_, ?_, ?_, ?_, trivial⟩
    · intro a w' K hs' hdep hfr hK
      have f12 := hfr 12 (by decide)
      exact plan_do (by rfl) (plan_yield (i := 0) (V := fun _ _ v => v = (.int .i64 0 : Value)) (.int .i64 0) (by go_simp) rfl hK)
    · intro a w' K hs' hdep hfr hK
      have e81 : a.tmps[81]?.getD undef = (.int .i64 0) := hdep 0 (by decide) 81 rfl
      exact plan_do (by rfl) (plan_yield (i := 1) (V := fun _ _ v => v = (.bool true : Value)) (.bool true) (by go_simp) rfl hK)
    · intro a w' K hs' hdep hfr hK
      have e82 : a.tmps[82]?.getD undef = (.bool true) := hdep 1 (by decide) 82 rfl
      exact plan_do (by rfl) (plan_yield (i := 2) (V := fun _ _ v => v = (.bool true : Value)) (.bool true) (by go_simp) rfl hK)
    · intro a w' K hs' hdep hfr hK
      have e83 : a.tmps[83]?.getD undef = (.bool true) := hdep 2 (by decide) 83 rfl
      have f13 := hfr 13 (by decide)
      exact plan_do (wanted_of 2 83 true rfl rfl e83) (plan_yield (i := 3) (V := fun _ _ v => v = (.int .i64 0 : Value)) (.int .i64 0) (by go_simp) rfl hK)
    · intro a w' K hs' hdep hfr hK
      have e84 : a.tmps[84]?.getD undef = (.int .i64 0) := hdep 3 (by decide) 84 rfl
      have e83 : a.tmps[83]?.getD undef = (.bool true) := hdep 2 (by decide) 83 rfl
      exact plan_do (wanted_of 2 83 true rfl rfl e83) (plan_yield (i := 4) (V := fun _ _ v => v = (.bool true : Value)) (.bool true) (by go_simp) rfl hK)
    · intro a w' K hs' hdep hfr hK
      have e83 : a.tmps[83]?.getD undef = (.bool true) := hdep 2 (by decide) 83 rfl
      have e85 : a.tmps[85]?.getD undef = (.bool true) := hdep 4 (by decide) 85 rfl
      exact plan_do (by rfl) (plan_yield (i := 5) (V := fun _ _ v => v = (.bool true : Value)) (.bool true) (by go_simp) rfl hK)
    · intro a w' K hs' hdep hfr hK
      have e86 : a.tmps[86]?.getD undef = (.bool true) := hdep 5 (by decide) 86 rfl
      have e83 : a.tmps[83]?.getD undef = (.bool true) := hdep 2 (by decide) 83 rfl
      exact plan_do (by rfl) (plan_yield (i := 6) (V := fun _ _ v => v = (.bool true : Value)) (.bool true) (by go_simp) rfl hK)
    · intro a w' K hs' hdep hfr hK
      have e87 : a.tmps[87]?.getD undef = (.bool true) := hdep 6 (by decide) 87 rfl
      have f15 := hfr 15 (by decide)
      exact plan_do (wanted_of 6 87 true rfl rfl e87) (plan_yield (i := 7) (V := fun _ _ v => v = (.int .i64 0 : Value)) (.int .i64 0) (by go_simp) rfl hK)
    · intro a w' K hs' hdep hfr hK
      have e88 : a.tmps[88]?.getD undef = (.int .i64 0) := hdep 7 (by decide) 88 rfl
      have e87 : a.tmps[87]?.getD undef = (.bool true) := hdep 6 (by decide) 87 rfl
      exact plan_do (wanted_of 6 87 true rfl rfl e87) (plan_yield (i := 8) (V := fun _ _ v => v = (.bool true : Value)) (.bool true) (by go_simp) rfl hK)
    · intro a w' K hs' hdep hfr hK
      have e87 : a.tmps[87]?.getD undef = (.bool true) := hdep 6 (by decide) 87 rfl
      have e89 : a.tmps[89]?.getD undef = (.bool true) := hdep 8 (by decide) 89 rfl
      exact plan_do (by rfl) (plan_yield (i := 9) (V := fun _ _ v => v = (.bool true : Value)) (.bool true) (by go_simp) rfl hK)
    · intro a w' K hs' hdep hfr hK
      have e90 : a.tmps[90]?.getD undef = (.bool true) := hdep 9 (by decide) 90 rfl
      have e87 : a.tmps[87]?.getD undef = (.bool true) := hdep 6 (by decide) 87 rfl
      exact plan_do (by rfl) (plan_yield (i := 10) (V := fun _ _ v => v = (.bool true : Value)) (.bool true) (by go_simp) rfl hK)
    · intro a w' K hs' hdep hfr hK
      have e91 : a.tmps[91]?.getD undef = (.bool true) := hdep 10 (by decide) 91 rfl
      have f17 := hfr 17 (by decide)
      exact plan_do (wanted_of 10 91 true rfl rfl e91) (plan_yield (i := 11) (V := fun _ _ v => v = (.int .i64 0 : Value)) (.int .i64 0) (by go_simp) rfl hK)
    · intro a w' K hs' hdep hfr hK
      have e92 : a.tmps[92]?.getD undef = (.int .i64 0) := hdep 11 (by decide) 92 rfl
      have e91 : a.tmps[91]?.getD undef = (.bool true) := hdep 10 (by decide) 91 rfl
      exact plan_do (wanted_of 10 91 true rfl rfl e91) (plan_yield (i := 12) (V := fun _ _ v => v = (.bool true : Value)) (.bool true) (by go_simp) rfl hK)
    · intro a w' K hs' hdep hfr hK
      have e91 : a.tmps[91]?.getD undef = (.bool true) := hdep 10 (by decide) 91 rfl
      have e93 : a.tmps[93]?.getD undef = (.bool true) := hdep 12 (by decide) 93 rfl
      exact plan_do (by rfl) (plan_yield (i := 13) (V := fun _ _ v => v = (.bool true : Value)) (.bool true) (by go_simp) rfl hK)
    · intro a w' K hs' hdep hfr hK
      have e94 : a.tmps[94]?.getD undef = (.bool true) := hdep 13 (by decide) 94 rfl
      have e91 : a.tmps[91]?.getD undef = (.bool true) := hdep 10 (by decide) 91 rfl
      exact plan_do (by rfl) (plan_yield (i := 14) (V := fun _ _ v => v = (.bool true : Value)) (.bool true) (by go_simp) rfl hK)
    · intro a w' K hs' hdep hfr hK
      have e95 : a.tmps[95]?.getD undef = (.bool true) := hdep 14 (by decide) 95 rfl
      have f19 := hfr 19 (by decide)
      exact plan_do (wanted_of 14 95 true rfl rfl e95) (plan_yield (i := 15) (V := fun _ _ v => v = (.int .i64 0 : Value)) (.int .i64 0) (by go_simp) rfl hK)
    · intro a w' K hs' hdep hfr hK
      have e96 : a.tmps[96]?.getD undef = (.int .i64 0) := hdep 15 (by decide) 96 rfl
      have e95 : a.tmps[95]?.getD undef = (.bool true) := hdep 14 (by decide) 95 rfl
      exact plan_do (wanted_of 14 95 true rfl rfl e95) (plan_yield (i := 16) (V := fun _ _ v => v = (.bool true : Value)) (.bool true) (by go_simp) rfl hK)
    · intro a w' K hs' hdep hfr hK
      have e95 : a.tmps[95]?.getD undef = (.bool true) := hdep 14 (by decide) 95 rfl
      have e97 : a.tmps[97]?.getD undef = (.bool true) := hdep 16 (by decide) 97 rfl
      exact plan_do (by rfl) (plan_yield (i := 17) (V := fun _ _ v => v = (.bool true : Value)) (.bool true) (by go_simp) rfl hK)
    · intro a w' K hs' hdep hfr hK
      have e98 : a.tmps[98]?.getD undef = (.bool true) := hdep 17 (by decide) 98 rfl
      have e95 : a.tmps[95]?.getD undef = (.bool true) := hdep 14 (by decide) 95 rfl
      exact plan_do (by rfl) (plan_yield (i := 18) (V := fun _ _ v => v = (.bool true : Value)) (.bool true) (by go_simp) rfl hK)
    · intro a w' K hs' hdep hfr hK
      have e99 : a.tmps[99]?.getD undef = (.bool true) := hdep 18 (by decide) 99 rfl
      have f21 := hfr 21 (by decide)
      exact plan_do (wanted_of 18 99 true rfl rfl e99) (plan_yield (i := 19) (V := fun _ _ v => v = (.int .i64 0 : Value)) (.int .i64 0) (by go_simp) rfl hK)
    · intro a w' K hs' hdep hfr hK
      have e100 : a.tmps[100]?.getD undef = (.int .i64 0) := hdep 19 (by decide) 100 rfl
      have e99 : a.tmps[99]?.getD undef = (.bool true) := hdep 18 (by decide) 99 rfl
      exact plan_do (wanted_of 18 99 true rfl rfl e99) (plan_yield (i := 20) (V := fun _ _ v => v = (.bool true : Value)) (.bool true) (by go_simp) rfl hK)
    · intro a w' K hs' hdep hfr hK
      have e99 : a.tmps[99]?.getD undef = (.bool true) := hdep 18 (by decide) 99 rfl
      have e101 : a.tmps[101]?.getD undef = (.bool true) := hdep 20 (by decide) 101 rfl
      exact plan_do (by rfl) (plan_yield (i := 21) (V := fun _ _ v => v = (.bool true : Value)) (.bool true) (by go_simp) rfl hK)
    · intro a w' K hs' hdep hfr hK
      have e102 : a.tmps[102]?.getD undef = (.bool true) := hdep 21 (by decide) 102 rfl
      have e99 : a.tmps[99]?.getD undef = (.bool true) := hdep 18 (by decide) 99 rfl
      exact plan_do (by rfl) (plan_yield (i := 22) (V := fun _ _ v => v = (.bool true : Value)) (.bool true) (by go_simp) rfl hK)
    · intro a w' K hs' hdep hfr hK
      have e103 : a.tmps[103]?.getD undef = (.bool true) := hdep 22 (by decide) 103 rfl
      have f14 := hfr 14 (by decide)
      exact plan_do (wanted_of 22 103 true rfl rfl e103) (plan_yield (i := 23) (V := fun _ _ v => v = (vr : Value)) (vr) (by go_simp) rfl hK)
    · intro a w' K hs' hdep hfr hK
      have e104 : a.tmps[104]?.getD undef = (vr) := hdep 23 (by decide) 104 rfl
      have e103 : a.tmps[103]?.getD undef = (.bool true) := hdep 22 (by decide) 103 rfl
      have k := run_reads (HRr.out.same hs')
      exact plan_do (wanted_of 22 103 true rfl rfl e103) (plan_yield (i := 24) (V := fun _ _ v => v = (strV X : Value)) (strV X) (by go_simp) rfl hK)
    · intro a w' K hs' hdep hfr hK
      have e103 : a.tmps[103]?.getD undef = (.bool true) := hdep 22 (by decide) 103 rfl
      have f10 := hfr 10 (by decide)
      exact plan_do (wanted_of 22 103 true rfl rfl e103) (plan_yield (i := 25) (V := fun _ _ v => v = (.slice (some ⟨gx, 0, none⟩) 512 512 : Value)) (.slice (some ⟨gx, 0, none⟩) 512 512) (by go_simp) rfl hK)
    · intro a w' K hs' hdep hfr hK
      have e106 : a.tmps[106]?.getD undef = (.slice (some ⟨gx, 0, none⟩) 512 512) := hdep 25 (by decide) 106 rfl
      have e103 : a.tmps[103]?.getD undef = (.bool true) := hdep 22 (by decide) 103 rfl
      have k := run_reads (HRx.out.same hs')
      exact plan_do (wanted_of 22 103 true rfl rfl e103) (plan_yield (i := 26) (V := fun _ _ v => v = (strV X : Value)) (strV X) (by go_simp) rfl hK)
    · intro a w' K hs' hdep hfr hK
      have e105 : a.tmps[105]?.getD undef = (strV X) := hdep 24 (by decide) 105 rfl
      have e107 : a.tmps[107]?.getD undef = (strV X) := hdep 26 (by decide) 107 rfl
      have e103 : a.tmps[103]?.getD undef = (.bool true) := hdep 22 (by decide) 103 rfl
      exact plan_do (wanted_of 22 103 true rfl rfl e103) (plan_yield (i := 27) (V := fun _ _ v => v = (.bool true : Value)) (.bool true) (by go_simp) rfl hK)
    · intro a w' K hs' hdep hfr hK
      have e103 : a.tmps[103]?.getD undef = (.bool true) := hdep 22 (by decide) 103 rfl
      have e108 : a.tmps[108]?.getD undef = (.bool true) := hdep 27 (by decide) 108 rfl
      exact plan_do (by rfl) (plan_yield (i := 28) (V := fun _ _ v => v = (.bool true : Value)) (.bool true) (by go_simp) rfl hK)
    · intro a w' K hs' hdep hfr hK
      have e109 : a.tmps[109]?.getD undef = (.bool true) := hdep 28 (by decide) 109 rfl
      have e103 : a.tmps[103]?.getD undef = (.bool true) := hdep 22 (by decide) 103 rfl
      exact plan_do (by rfl) (plan_yield (i := 29) (V := fun _ _ v => v = (.bool true : Value)) (.bool true) (by go_simp) rfl hK)
    · intro a w' K hs' hdep hfr hK
      have e110 : a.tmps[110]?.getD undef = (.bool true) := hdep 29 (by decide) 110 rfl
      have f16 := hfr 16 (by decide)
      exact plan_do (wanted_of 29 110 true rfl rfl e110) (plan_yield (i := 30) (V := fun _ _ v => v = (vs : Value)) (vs) (by go_simp) rfl hK)
    · intro a w' K hs' hdep hfr hK
      have e111 : a.tmps[111]?.getD undef = (vs) := hdep 30 (by decide) 111 rfl
      have e110 : a.tmps[110]?.getD undef = (.bool true) := hdep 29 (by decide) 110 rfl
      have k := run_reads (HRs.out.same hs')
      exact plan_do (wanted_of 29 110 true rfl rfl e110) (plan_yield (i := 31) (V := fun _ _ v => v = (strV Y : Value)) (strV Y) (by go_simp) rfl hK)
    · intro a w' K hs' hdep hfr hK
      have e110 : a.tmps[110]?.getD undef = (.bool true) := hdep 29 (by decide) 110 rfl
      have f11 := hfr 11 (by decide)
      exact plan_do (wanted_of 29 110 true rfl rfl e110) (plan_yield (i := 32) (V := fun _ _ v => v = (.slice (some ⟨gy, 0, none⟩) 512 512 : Value)) (.slice (some ⟨gy, 0, none⟩) 512 512) (by go_simp) rfl hK)
    · intro a w' K hs' hdep hfr hK
      have e113 : a.tmps[113]?.getD undef = (.slice (some ⟨gy, 0, none⟩) 512 512) := hdep 32 (by decide) 113 rfl
      have e110 : a.tmps[110]?.getD undef = (.bool true) := hdep 29 (by decide) 110 rfl
      have k := run_reads (HRy.out.same hs')
      exact plan_do (wanted_of 29 110 true rfl rfl e110) (plan_yield (i := 33) (V := fun _ _ v => v = (strV Y : Value)) (strV Y) (by go_simp) rfl hK)
    · intro a w' K hs' hdep hfr hK
      have e112 : a.tmps[112]?.getD undef = (strV Y) := hdep 31 (by decide) 112 rfl
      have e114 : a.tmps[114]?.getD undef = (strV Y) := hdep 33 (by decide) 114 rfl
      have e110 : a.tmps[110]?.getD undef = (.bool true) := hdep 29 (by decide) 110 rfl
      exact plan_do (wanted_of 29 110 true rfl rfl e110) (plan_yield (i := 34) (V := fun _ _ v => v = (.bool true : Value)) (.bool true) (by go_simp) rfl hK)
    · intro a w' K hs' hdep hfr hK
      have e110 : a.tmps[110]?.getD undef = (.bool true) := hdep 29 (by decide) 110 rfl
      have e115 : a.tmps[115]?.getD undef = (.bool true) := hdep 34 (by decide) 115 rfl
      exact plan_do (by rfl) (plan_yield (i := 35) (V := fun _ _ v => v = (.bool true : Value)) (.bool true) (by go_simp) rfl hK)
    · intro a w' K hs' hdep hfr hK
      have e116 : a.tmps[116]?.getD undef = (.bool true) := hdep 35 (by decide) 116 rfl
      have e110 : a.tmps[110]?.getD undef = (.bool true) := hdep 29 (by decide) 110 rfl
      exact plan_do (by rfl) (plan_yield (i := 36) (V := fun _ _ v => v = (.bool true : Value)) (.bool true) (by go_simp) rfl hK)
    · intro a w' K hs' hdep hfr hK
      have e117 : a.tmps[117]?.getD undef = (.bool true) := hdep 36 (by decide) 117 rfl
      have f18 := hfr 18 (by decide)
      exact plan_do (wanted_of 36 117 true rfl rfl e117) (plan_yield (i := 37) (V := fun _ _ v => v = (vt : Value)) (vt) (by go_simp) rfl hK)
    · intro a w' K hs' hdep hfr hK
      have e118 : a.tmps[118]?.getD undef = (vt) := hdep 37 (by decide) 118 rfl
      have e117 : a.tmps[117]?.getD undef = (.bool true) := hdep 36 (by decide) 117 rfl
      have k := run_reads (HRt.out.same hs')
      exact plan_do (wanted_of 36 117 true rfl rfl e117) (plan_yield (i := 38) (V := fun _ _ v => v = (strV noughts : Value)) (strV noughts) (by go_simp) rfl hK)
    · intro a w' K hs' hdep hfr hK
      have e117 : a.tmps[117]?.getD undef = (.bool true) := hdep 36 (by decide) 117 rfl
      obtain ⟨w2, k, ks, kr⟩ := run_noughts w'
      exact plan_do (wanted_of 36 117 true rfl rfl e117) (plan_grow (i := 39) (V := fun _ w v => Reads w v noughts) _ (by go_simp) ks kr hK)
    · intro a w' K hs' hdep hfr hK
      have e117 : a.tmps[117]?.getD undef = (.bool true) := hdep 36 (by decide) 117 rfl
      have r120 : Reads w' (a.tmps[120]?.getD undef) noughts := hdep 39 (by decide) 120 rfl
      have k := run_reads r120
      exact plan_do (wanted_of 36 117 true rfl rfl e117) (plan_yield (i := 40) (V := fun _ _ v => v = (strV noughts : Value)) (strV noughts) (by go_simp) rfl hK)
    · intro a w' K hs' hdep hfr hK
      have e119 : a.tmps[119]?.getD undef = (strV noughts) := hdep 38 (by decide) 119 rfl
      have e121 : a.tmps[121]?.getD undef = (strV noughts) := hdep 40 (by decide) 121 rfl
      have e117 : a.tmps[117]?.getD undef = (.bool true) := hdep 36 (by decide) 117 rfl
      exact plan_do (wanted_of 36 117 true rfl rfl e117) (plan_yield (i := 41) (V := fun _ _ v => v = (.bool true : Value)) (.bool true) (by go_simp) rfl hK)
    · intro a w' K hs' hdep hfr hK
      have e117 : a.tmps[117]?.getD undef = (.bool true) := hdep 36 (by decide) 117 rfl
      have e122 : a.tmps[122]?.getD undef = (.bool true) := hdep 41 (by decide) 122 rfl
      exact plan_do (by rfl) (plan_yield (i := 42) (V := fun _ _ v => v = (.bool true : Value)) (.bool true) (by go_simp) rfl hK)
    · intro a w' K hs' hdep hfr hK
      have e123 : a.tmps[123]?.getD undef = (.bool true) := hdep 42 (by decide) 123 rfl
      have e117 : a.tmps[117]?.getD undef = (.bool true) := hdep 36 (by decide) 117 rfl
      exact plan_do (by rfl) (plan_yield (i := 43) (V := fun _ _ v => v = (.bool true : Value)) (.bool true) (by go_simp) rfl hK)
    · intro a w' K hs' hdep hfr hK
      have e124 : a.tmps[124]?.getD undef = (.bool true) := hdep 43 (by decide) 124 rfl
      have f20 := hfr 20 (by decide)
      exact plan_do (wanted_of 43 124 true rfl rfl e124) (plan_yield (i := 44) (V := fun _ _ v => v = (vu : Value)) (vu) (by go_simp) rfl hK)
    · intro a w' K hs' hdep hfr hK
      have e125 : a.tmps[125]?.getD undef = (vu) := hdep 44 (by decide) 125 rfl
      have e124 : a.tmps[124]?.getD undef = (.bool true) := hdep 43 (by decide) 124 rfl
      have k := run_reads (HRu.out.same hs')
      exact plan_do (wanted_of 43 124 true rfl rfl e124) (plan_yield (i := 45) (V := fun _ _ v => v = (strV Y : Value)) (strV Y) (by go_simp) rfl hK)
    · intro a w' K hs' hdep hfr hK
      have e124 : a.tmps[124]?.getD undef = (.bool true) := hdep 43 (by decide) 124 rfl
      have f11 := hfr 11 (by decide)
      exact plan_do (wanted_of 43 124 true rfl rfl e124) (plan_yield (i := 46) (V := fun _ _ v => v = (.slice (some ⟨gy, 0, none⟩) 512 512 : Value)) (.slice (some ⟨gy, 0, none⟩) 512 512) (by go_simp) rfl hK)
    · intro a w' K hs' hdep hfr hK
      have e127 : a.tmps[127]?.getD undef = (.slice (some ⟨gy, 0, none⟩) 512 512) := hdep 46 (by decide) 127 rfl
      have e124 : a.tmps[124]?.getD undef = (.bool true) := hdep 43 (by decide) 124 rfl
      have k := run_reads (HRy.out.same hs')
      exact plan_do (wanted_of 43 124 true rfl rfl e124) (plan_yield (i := 47) (V := fun _ _ v => v = (strV Y : Value)) (strV Y) (by go_simp) rfl hK)
    · intro a w' K hs' hdep hfr hK
      have e126 : a.tmps[126]?.getD undef = (strV Y) := hdep 45 (by decide) 126 rfl
      have e128 : a.tmps[128]?.getD undef = (strV Y) := hdep 47 (by decide) 128 rfl
      have e124 : a.tmps[124]?.getD undef = (.bool true) := hdep 43 (by decide) 124 rfl
      exact plan_do (wanted_of 43 124 true rfl rfl e124) (plan_yield (i := 48) (V := fun _ _ v => v = (.bool true : Value)) (.bool true) (by go_simp) rfl hK)
    · intro a w' K hs' hdep hfr hK
      have e124 : a.tmps[124]?.getD undef = (.bool true) := hdep 43 (by decide) 124 rfl
      have e129 : a.tmps[129]?.getD undef = (.bool true) := hdep 48 (by decide) 129 rfl
      exact plan_do (by rfl) (plan_yield (i := 49) (V := fun _ _ v => v = (.bool true : Value)) (.bool true) (by go_simp) rfl hK)
    · intro a w' K hs' hdep hfr hK
      have e130 : a.tmps[130]?.getD undef = (.bool true) := hdep 49 (by decide) 130 rfl
      have e124 : a.tmps[124]?.getD undef = (.bool true) := hdep 43 (by decide) 124 rfl
      have e81 : a.tmps[81]?.getD undef = (.int .i64 0) := hdep 0 (by decide) 81 rfl
      have e82 : a.tmps[82]?.getD undef = (.bool true) := hdep 1 (by decide) 82 rfl
      have e83 : a.tmps[83]?.getD undef = (.bool true) := hdep 2 (by decide) 83 rfl
      have e84 : a.tmps[84]?.getD undef = (.int .i64 0) := hdep 3 (by decide) 84 rfl
      have e85 : a.tmps[85]?.getD undef = (.bool true) := hdep 4 (by decide) 85 rfl
      have e86 : a.tmps[86]?.getD undef = (.bool true) := hdep 5 (by decide) 86 rfl
      have e87 : a.tmps[87]?.getD undef = (.bool true) := hdep 6 (by decide) 87 rfl
      have e88 : a.tmps[88]?.getD undef = (.int .i64 0) := hdep 7 (by decide) 88 rfl
      have e89 : a.tmps[89]?.getD undef = (.bool true) := hdep 8 (by decide) 89 rfl
      have e90 : a.tmps[90]?.getD undef = (.bool true) := hdep 9 (by decide) 90 rfl
      have e91 : a.tmps[91]?.getD undef = (.bool true) := hdep 10 (by decide) 91 rfl
      have e92 : a.tmps[92]?.getD undef = (.int .i64 0) := hdep 11 (by decide) 92 rfl
      have e93 : a.tmps[93]?.getD undef = (.bool true) := hdep 12 (by decide) 93 rfl
      have e94 : a.tmps[94]?.getD undef = (.bool true) := hdep 13 (by decide) 94 rfl
      have e95 : a.tmps[95]?.getD undef = (.bool true) := hdep 14 (by decide) 95 rfl
      have e96 : a.tmps[96]?.getD undef = (.int .i64 0) := hdep 15 (by decide) 96 rfl
      have e97 : a.tmps[97]?.getD undef = (.bool true) := hdep 16 (by decide) 97 rfl
      have e98 : a.tmps[98]?.getD undef = (.bool true) := hdep 17 (by decide) 98 rfl
      have e99 : a.tmps[99]?.getD undef = (.bool true) := hdep 18 (by decide) 99 rfl
      have e100 : a.tmps[100]?.getD undef = (.int .i64 0) := hdep 19 (by decide) 100 rfl
      have e101 : a.tmps[101]?.getD undef = (.bool true) := hdep 20 (by decide) 101 rfl
      have e102 : a.tmps[102]?.getD undef = (.bool true) := hdep 21 (by decide) 102 rfl
      have e103 : a.tmps[103]?.getD undef = (.bool true) := hdep 22 (by decide) 103 rfl
      have e104 : a.tmps[104]?.getD undef = (vr) := hdep 23 (by decide) 104 rfl
      have e105 : a.tmps[105]?.getD undef = (strV X) := hdep 24 (by decide) 105 rfl
      have e106 : a.tmps[106]?.getD undef = (.slice (some ⟨gx, 0, none⟩) 512 512) := hdep 25 (by decide) 106 rfl
      have e107 : a.tmps[107]?.getD undef = (strV X) := hdep 26 (by decide) 107 rfl
      have e108 : a.tmps[108]?.getD undef = (.bool true) := hdep 27 (by decide) 108 rfl
      have e109 : a.tmps[109]?.getD undef = (.bool true) := hdep 28 (by decide) 109 rfl
      have e110 : a.tmps[110]?.getD undef = (.bool true) := hdep 29 (by decide) 110 rfl
      have e111 : a.tmps[111]?.getD undef = (vs) := hdep 30 (by decide) 111 rfl
      have e112 : a.tmps[112]?.getD undef = (strV Y) := hdep 31 (by decide) 112 rfl
      have e113 : a.tmps[113]?.getD undef = (.slice (some ⟨gy, 0, none⟩) 512 512) := hdep 32 (by decide) 113 rfl
      have e114 : a.tmps[114]?.getD undef = (strV Y) := hdep 33 (by decide) 114 rfl
      have e115 : a.tmps[115]?.getD undef = (.bool true) := hdep 34 (by decide) 115 rfl
      have e116 : a.tmps[116]?.getD undef = (.bool true) := hdep 35 (by decide) 116 rfl
      have e117 : a.tmps[117]?.getD undef = (.bool true) := hdep 36 (by decide) 117 rfl
      have e118 : a.tmps[118]?.getD undef = (vt) := hdep 37 (by decide) 118 rfl
      have e119 : a.tmps[119]?.getD undef = (strV noughts) := hdep 38 (by decide) 119 rfl
      have e121 : a.tmps[121]?.getD undef = (strV noughts) := hdep 40 (by decide) 121 rfl
      have e122 : a.tmps[122]?.getD undef = (.bool true) := hdep 41 (by decide) 122 rfl
      have e123 : a.tmps[123]?.getD undef = (.bool true) := hdep 42 (by decide) 123 rfl
      have e125 : a.tmps[125]?.getD undef = (vu) := hdep 44 (by decide) 125 rfl
      have e126 : a.tmps[126]?.getD undef = (strV Y) := hdep 45 (by decide) 126 rfl
      have e127 : a.tmps[127]?.getD undef = (.slice (some ⟨gy, 0, none⟩) 512 512) := hdep 46 (by decide) 127 rfl
      have e128 : a.tmps[128]?.getD undef = (strV Y) := hdep 47 (by decide) 128 rfl
      have e129 : a.tmps[129]?.getD undef = (.bool true) := hdep 48 (by decide) 129 rfl
      exact plan_do (by rfl) (plan_yield (i := 50) (V := fun _ _ v => v = (.bool true : Value)) (.bool true) (by go_simp) rfl hK)
  intro a w9 hk9 hdef hsz hv hfr
  have eL : a.tmps[6]?.getD undef = .bool true := hv 50 6 rfl
  go_wp2
  refine bodyPost_ret (results_tmp (t := 6) rfl _ _ _) hdef ⟨?_, HIa.out.2.1.trans hk9 (fun _ _ e => e)⟩
  rw [Array.getD_eq_getD_getElem?, eL]
end Go.Proofs.Ytoimhniijeafaaa
