/- The walk of NodeLevels. -/
import Derived.Test.YtdeajjppmgfemaaNd12
import Derived.Test.YtdeajjppmgfemaaNd6
namespace Go.Proofs.Ytdeajjppmgfemaa
open Go.RowKit
set_option linter.unusedVariables false

set_option maxRecDepth 100000 in
set_option maxHeartbeats 25600000 in
theorem levels_any (lv lv2 : Int) (po ko po2 ko2 : Option Addr) (pc kc pc2 kc2 : Nat) (ps ps2 : List PairX) (ks ks2 : List KidX) (w : World) (h : NodeAt w po ko ps ks pc kc) (h2 : NodeAt w po2 ko2 ps2 ks2 pc2 kc2)
    (hm : pc ≤ 9223372036854775807) (hm2 : pc2 ≤ 9223372036854775807) :
    Calls Try.prog 6 #[nodeV lv po ps.length pc ko ks.length kc, nodeV lv2 po2 ps2.length pc2 ko2 ks2.length kc2] w fun e w' => e = .returned (.bool true) ∧ Same w w' := by
  obtain ⟨w2, hw2⟩ : ∃ w2, (w.alloc (.cells #[.int .i64 lv, .slice po ps.length pc, .slice ko ks.length kc] 25)).alloc (.cells #[.int .i64 lv2, .slice po2 ps2.length pc2, .slice ko2 ks2.length kc2] 25) = w2 := ⟨_, rfl⟩
  have HA0 : Hid (w2.heap[w.heap.size]? = some (.cells #[.int .i64 lv, .slice po ps.length pc, .slice ko ks.length kc] 25 (0, 0))) := Lib.hid (by rw [← hw2]; exact heap_alloc2_old w _ _)
  have HB0 : Hid (w2.heap[w.heap.size + 1]? = some (.cells #[.int .i64 lv2, .slice po2 ps2.length pc2, .slice ko2 ks2.length kc2] 25 (0, 0))) := Lib.hid (by rw [← hw2]; exact heap_alloc2_new w _ _)
  have HS0 : Hid (Same w w2) := Lib.hid (by rw [← hw2]; exact ((Keeps.refl _ _).alloc _).alloc _)
  have HW2 := Lib.hid hw2
  have HN := Lib.hid h
  have HN2 := Lib.hid h2
  have hpm : ps.length ≤ 9223372036854775807 ∧ ps2.length ≤ 9223372036854775807 := by have := h.hp; have := h2.hp; omega
  clear h h2 hw2
  go_enter Try.func6, Try.ntmps6
  go_wp2_with fail
  rw [HW2.out]
  clear HW2
  go_wp2_with fail
  ((with_reducible refine (speaks07 _).mono ?_); rintro e w3 ⟨rfl, hk3⟩)
  have HA1 := Lib.hid (hk3.obj HA0.out (fun e => e))
  have HB1 := Lib.hid (hk3.obj HB0.out (fun e => e))
  have HS1 := Lib.hid (HS0.out.trans hk3 (fun _ _ e => e))
  clear hk3 HA0 HB0 HS0
  obtain ⟨a0, a1, a2⟩ := cell_of_three HA1.out
  go_wp2_with fail
  ((with_reducible refine (great07 lv po ko _ pc _ kc ps ks _ (HN.out.same HS1.out) rfl rfl hpm.1).mono ?_); rintro e w4 ⟨b, rfl, hk4, hg⟩)
  have HA2 := Lib.hid (hk4.obj HA1.out (fun e => e))
  have HB2 := Lib.hid (hk4.obj HB1.out (fun e => e))
  have HS2 := Lib.hid (HS1.out.trans hk4 (fun _ _ e => e))
  have HG := Lib.hid hg
  clear hk4 hg HA1 HB1 HS1 a0 a1 a2
  obtain ⟨b0, b1, b2⟩ := cell_of_three HB2.out
  cases b with
  | true =>
    go_wp2
    go_ret
    exact ⟨rfl, HS2.out⟩
  | false =>
  go_wp2_with fail
  ((with_reducible refine (great07 lv2 po2 ko2 _ pc2 _ kc2 ps2 ks2 _ (HN2.out.same HS2.out) rfl rfl hpm.2).mono ?_); rintro e w5 ⟨b, rfl, hk5, hg⟩)
  have HA3 := Lib.hid (hk5.obj HA2.out (fun e => e))
  have HB3 := Lib.hid (hk5.obj HB2.out (fun e => e))
  have HS3 := Lib.hid (HS2.out.trans hk5 (fun _ _ e => e))
  have HG2 := Lib.hid hg
  clear hk5 hg HA2 HB2 HS2 b0 b1 b2
  cases b with
  | true =>
    go_wp2
    go_ret
    exact ⟨rfl, HS3.out⟩
  | false =>
  have HGA : Hid (psum ps ≤ 8000 ∧ ks.length ≤ 300 ∧ ∀ k ∈ ks, k.fs.length ≤ 70000) := Lib.hid (HG.out (by trivial))
  have HGB : Hid (psum ps2 ≤ 8000 ∧ ks2.length ≤ 300 ∧ ∀ k ∈ ks2, k.fs.length ≤ 70000) := Lib.hid (HG2.out (by trivial))
  have HPB : Hid (ps.length ≤ 8000 ∧ ks.length ≤ 300 ∧ ps2.length ≤ 8000 ∧ ks2.length ≤ 300) := Lib.hid ⟨by have := psum_len ps; have := HGA.out.1; omega, HGA.out.2.1, by have := psum_len ps2; have := HGB.out.1; omega, HGB.out.2.1⟩
  clear HG HG2
  obtain ⟨a0, a1, a2⟩ := cell_of_three HA3.out
  go_wp2_with fail
  ((with_reducible refine (nodeWrite_any lv po ko _ pc _ kc ps ks _ (HN.out.same HS3.out) rfl rfl (by have := HGA.out.1; omega) (fun k hk => by have := HGA.out.2.2 k hk; omega) (by have := HPB.out; omega)).mono ?_); rintro e w6 ⟨hk6, v1, X, er1, rfl, hrd1, hfr1, hcs1⟩)
  have HA4 := Lib.hid (hk6.obj HA3.out (fun e => e))
  have HB4 := Lib.hid (hk6.obj HB3.out (fun e => e))
  have HS4 := Lib.hid (HS3.out.trans hk6 (fun _ _ e => e))
  have HR1 := Lib.hid hrd1
  have HC1 := Lib.hid hcs1
  clear hk6 hrd1 hfr1 hcs1 HA3 HB3 HS3 a0 a1 a2
  obtain ⟨b0, b1, b2⟩ := cell_of_three HB4.out
  go_wp2_with fail
  ((with_reducible refine (nodeWrite_any lv2 po2 ko2 _ pc2 _ kc2 ps2 ks2 _ (HN2.out.same HS4.out) rfl rfl (by have := HGB.out.1; omega) (fun k hk => by have := HGB.out.2.2 k hk; omega) (by have := HPB.out; omega)).mono ?_); rintro e w7 ⟨hk7, v2, Y, er2, rfl, hrd2, hfr2, hcs2⟩)
  have HA := Lib.hid (hk7.obj HA4.out (fun e => e))
  have HB := Lib.hid (hk7.obj HB4.out (fun e => e))
  have HS := Lib.hid (HS4.out.trans hk7 (fun _ _ e => e))
  have HR2 := Lib.hid hrd2
  have HR17 : Hid (Reads w7 v1 X) := Lib.hid (HR1.out.same hk7)
  have HC2 := Lib.hid hcs2
  have HNA := Lib.hid (HN.out.same HS.out)
  have HNB := Lib.hid (HN2.out.same HS.out)
  clear hk7 hrd2 hfr2 hcs2 HA4 HB4 HS4 b0 b1 b2 HR1
  have her1 : er1 = 0 ∨ er1 = 1 ∨ er1 = 23 := by
    rcases HC1.out with ⟨_, _, _, h⟩ | ⟨_, _, _, h⟩ | ⟨_, _, h⟩
    · exact .inl h
    · exact .inr (.inr h)
    · exact .inr (.inl h)
  have her2 : er2 = 0 ∨ er2 = 1 ∨ er2 = 23 := by
    rcases HC2.out with ⟨_, _, _, h⟩ | ⟨_, _, _, h⟩ | ⟨_, _, h⟩
    · exact .inl h
    · exact .inr (.inr h)
    · exact .inr (.inl h)
  by_cases h1 : er1 = 0
  case neg =>
    rcases her1 with rfl | rfl | rfl
    · exact absurd rfl h1
    all_goals
      clear her2 h1
      go_wp2
      go_ret
      exact ⟨rfl, HS.out⟩
  subst h1
  by_cases h2 : er2 = 0
  case neg =>
    rcases her2 with rfl | rfl | rfl
    · exact absurd rfl h2
    all_goals
      clear her1 h2
      go_wp2
      go_ret
      exact ⟨rfl, HS.out⟩
  subst h2
  clear her1 her2
  have hf1 : NFit lv (kvs ps) (kks ks) ∧ X = nodeB lv.toNat (kvs ps) (kks ks) := by
    rcases HC1.out with ⟨q1, q2, q3, _⟩ | ⟨_, _, _, h⟩ | ⟨_, _, h⟩
    · refine ⟨⟨q1, fun k hk => ?_, q2⟩, q3⟩
      simp only [kks, List.mem_map] at hk
      obtain ⟨k0, hk0, rfl⟩ := hk
      obtain ⟨j, hj, rfl⟩ := List.getElem_of_mem hk0
      obtain ⟨_, _, _, _, _, _, hka⟩ := HNA.out.kids.at hj
      exact hka.hl
    · simp at h
    · simp at h
  have hf2 : NFit lv2 (kvs ps2) (kks ks2) ∧ Y = nodeB lv2.toNat (kvs ps2) (kks ks2) := by
    rcases HC2.out with ⟨q1, q2, q3, _⟩ | ⟨_, _, _, h⟩ | ⟨_, _, h⟩
    · refine ⟨⟨q1, fun k hk => ?_, q2⟩, q3⟩
      simp only [kks, List.mem_map] at hk
      obtain ⟨k0, hk0, rfl⟩ := hk
      obtain ⟨j, hj, rfl⟩ := List.getElem_of_mem hk0
      obtain ⟨_, _, _, _, _, _, hka⟩ := HNB.out.kids.at hj
      exact hka.hl
    · simp at h
    · simp at h
  have hiff : X = Y ↔ NodeEq lv lv2 ps ps2 ks ks2 := by
    constructor
    · intro e
      rw [hf1.2, hf2.2] at e
      exact node_inj hf1.1 hf2.1 e
    · rintro ⟨rfl, e2, e3⟩
      rw [hf1.2, hf2.2, e2, e3]
  have hXl : 3 ≤ X.length ∧ X.length ≤ 470 := by
    rw [hf1.2]
    exact ⟨by rw [nodeB_len]; omega, hf1.1.2.2⟩
  obtain ⟨xa, xc, rfl, hbx, hsx, hcx⟩ := HR17.out.some' (by intro e; rw [e] at hXl; simp at hXl)
  obtain ⟨ya, yc, rfl, hby, hsy, hcy⟩ := HR2.out.some' (by rw [hf2.2]; exact nodeB_ne _ _ _)
  have HBX := Lib.hid hbx
  have HBY := Lib.hid hby
  have HSX : Hid (∀ a n c, Value.slice (some xa) X.length xc = .slice (some a) n c → X ≠ [] → a.spot = none) := Lib.hid (fun a n c e _ => by simp only [Value.slice.injEq, Option.some.injEq] at e; rw [← e.1]; exact hsx)
  have HSY : Hid (∀ a n c, Value.slice (some ya) Y.length yc = .slice (some a) n c → Y ≠ [] → a.spot = none) := Lib.hid (fun a n c e _ => by simp only [Value.slice.injEq, Option.some.injEq] at e; rw [← e.1]; exact hsy)
  have HIFF := Lib.hid hiff
  obtain ⟨n, hn⟩ : ∃ n, X.length = n := ⟨_, rfl⟩
  obtain ⟨m, hm'⟩ : ∃ n, Y.length = n := ⟨_, rfl⟩
  rw [hn] at hXl HBX HSX ⊢
  rw [hm'] at HBY HSY ⊢
  have HNL : Hid (3 ≤ (n : Int) ∧ (n : Int) ≤ 470) := Lib.hid (by omega)
  clear hf1 hf2 hiff hXl hbx hsx hcx hby hsy hcy hn hm' HR17 HR2 HC1 HC2
  by_cases hXY : X = Y
  · have HEQ : Hid (NodeEq lv lv2 ps ps2 ks ks2) := Lib.hid (HIFF.out.1 hXY)
    have HXY := Lib.hid hXY
    subst hXY
    go_wp2
    try clear hXY
    · skip
      refine wp_region_do [[], [0], [], [2], [1, 3], [], [], [5, 6], [4, 7], [8, 7], [9], [10, 9], [11, 9], [9, 12], [13, 9], [14], [15, 14], [16, 14], [14, 17], [18, 14, 0, 1, 2, 3, 4, 5, 6, 7, 8, 9, 10, 11, 12, 13, 14, 15, 16, 17, 18]]
        [some 33, some 34, some 35, some 36, some 37, some 38, some 39, some 40, some 41, some 42, some 43, some 44, some 45, some 46, some 47, some 48, some 49, some 50, some 51, some 4]
        [.is (.slice (some xa) n xc), .is (.string ⟨X.toArray⟩), .is (.slice (some ya) m yc), .is (.string ⟨X.toArray⟩), .is (.bool true), .is (nodeV lv po ps.length pc ko ks.length kc), .is (nodeV lv2 po2 ps2.length pc2 ko2 ks2.length kc2), .is (.bool true), .is (.bool true), .is (.bool true), .is (.slice (some xa) n xc), .is (.int .i64 (n : Int)), .is (.bool true), .is (.bool true), .is (.bool true), .is (.slice (some xa) n xc), .is (.int .i64 (n : Int)), .is (.bool true), .is (.bool true), .is (.bool true)]
        9 _ _ 52 20 (by kernel_rfl) (by rfl) (by rfl) (by kernel_rfl) (by kernel_rfl) (by decide) ?_ ?_
      · refine ⟨?_, ?_, ?_, ?_, ?_, ?_, ?_, ?_, ?_, ?_, ?_, ?_, ?_, ?_, ?_, ?_, ?_, ?_, ?_, ?_, trivial⟩
        · intro a w' K hs' hdep hfr hK
          have f5 := hfr 5 (by decide)
          exact plan_do (by rfl) (plan_yield (i := 0) (V := fun _ _ v => v = (.slice (some xa) n xc : Value)) (.slice (some xa) n xc) (by go_simp) rfl hK)
        · intro a w' K hs' hdep hfr hK
          have e33 : a.tmps[33]?.getD undef = (.slice (some xa) n xc) := hdep 0 (by decide) 33 rfl
          have k := bytes_str (HBX.out.same hs') HSX.out
          exact plan_do (by rfl) (plan_yield (i := 1) (V := fun _ _ v => v = (.string ⟨X.toArray⟩ : Value)) (.string ⟨X.toArray⟩) (by go_simp) rfl hK)
        · intro a w' K hs' hdep hfr hK
          have f7 := hfr 7 (by decide)
          exact plan_do (by rfl) (plan_yield (i := 2) (V := fun _ _ v => v = (.slice (some ya) m yc : Value)) (.slice (some ya) m yc) (by go_simp) rfl hK)
        · intro a w' K hs' hdep hfr hK
          have e35 : a.tmps[35]?.getD undef = (.slice (some ya) m yc) := hdep 2 (by decide) 35 rfl
          have k := bytes_str (HBY.out.same hs') HSY.out
          exact plan_do (by rfl) (plan_yield (i := 3) (V := fun _ _ v => v = (.string ⟨X.toArray⟩ : Value)) (.string ⟨X.toArray⟩) (by go_simp) rfl hK)
        · intro a w' K hs' hdep hfr hK
          have e34 : a.tmps[34]?.getD undef = (.string ⟨X.toArray⟩) := hdep 1 (by decide) 34 rfl
          have e36 : a.tmps[36]?.getD undef = (.string ⟨X.toArray⟩) := hdep 3 (by decide) 36 rfl
          have z1 := str_list X
          have z2 := str_list X
          exact plan_do (by rfl) (plan_yield (i := 4) (V := fun _ _ v => v = (.bool true : Value)) (.bool true) (by go_simp) rfl hK)
        · intro a w' K hs' hdep hfr hK
          have f2 := hfr 2 (by decide)
          obtain ⟨cl0, cl1, cl2⟩ := cell_of_three (hs'.obj HA.out (fun e => e))
          exact plan_do (by rfl) (plan_yield (i := 5) (V := fun _ _ v => v = (nodeV lv po ps.length pc ko ks.length kc : Value)) (nodeV lv po ps.length pc ko ks.length kc) (by go_simp) rfl hK)
        · intro a w' K hs' hdep hfr hK
          have f3 := hfr 3 (by decide)
          obtain ⟨cl0, cl1, cl2⟩ := cell_of_three (hs'.obj HB.out (fun e => e))
          exact plan_do (by rfl) (plan_yield (i := 6) (V := fun _ _ v => v = (nodeV lv2 po2 ps2.length pc2 ko2 ks2.length kc2 : Value)) (nodeV lv2 po2 ps2.length pc2 ko2 ks2.length kc2) (by go_simp) rfl hK)
        · intro a w' K hs' hdep hfr hK
          have e38 : a.tmps[38]?.getD undef = (nodeV lv po ps.length pc ko ks.length kc) := hdep 5 (by decide) 38 rfl
          have e39 : a.tmps[39]?.getD undef = (nodeV lv2 po2 ps2.length pc2 ko2 ks2.length kc2) := hdep 6 (by decide) 39 rfl
          refine plan_do (by rfl) (plan_call 12 #[nodeV lv po ps.length pc ko ks.length kc, nodeV lv2 po2 ps2.length pc2 ko2 ks2.length kc2] (by go_simp) ?_)
          refine (sameNode_any lv lv2 po ko po2 ko2 _ pc _ kc _ pc2 _ kc2 ps ps2 ks ks2 w' (HNA.out.same hs') (HNB.out.same hs') rfl rfl rfl rfl (by have := HPB.out; omega) (by have := HPB.out; omega)).mono fun e w'' ⟨b, he, hk, hb⟩ => ⟨_, he, hK _ _ hk ?_⟩
          cases b with
          | true => rfl
          | false => exact absurd (hb.2 HEQ.out) (by simp)
        · intro a w' K hs' hdep hfr hK
          have e37 : a.tmps[37]?.getD undef = (.bool true) := hdep 4 (by decide) 37 rfl
          have e40 : a.tmps[40]?.getD undef = (.bool true) := hdep 7 (by decide) 40 rfl
          exact plan_do (by rfl) (plan_yield (i := 8) (V := fun _ _ v => v = (.bool true : Value)) (.bool true) (by go_simp) rfl hK)
        · intro a w' K hs' hdep hfr hK
          have e41 : a.tmps[41]?.getD undef = (.bool true) := hdep 8 (by decide) 41 rfl
          exact plan_do (by rfl) (plan_yield (i := 9) (V := fun _ _ v => v = (.bool true : Value)) (.bool true) (by go_simp) rfl hK)
        · intro a w' K hs' hdep hfr hK
          have e42 : a.tmps[42]?.getD undef = (.bool true) := hdep 9 (by decide) 42 rfl
          have f5 := hfr 5 (by decide)
          exact plan_do (wanted_of 9 42 true rfl rfl e42) (plan_yield (i := 10) (V := fun _ _ v => v = (.slice (some xa) n xc : Value)) (.slice (some xa) n xc) (by go_simp) rfl hK)
        · intro a w' K hs' hdep hfr hK
          have e43 : a.tmps[43]?.getD undef = (.slice (some xa) n xc) := hdep 10 (by decide) 43 rfl
          have e42 : a.tmps[42]?.getD undef = (.bool true) := hdep 9 (by decide) 42 rfl
          exact plan_do (wanted_of 9 42 true rfl rfl e42) (plan_yield (i := 11) (V := fun _ _ v => v = (.int .i64 (n : Int) : Value)) (.int .i64 (n : Int)) (by go_simp) rfl hK)
        · intro a w' K hs' hdep hfr hK
          have e44 : a.tmps[44]?.getD undef = (.int .i64 (n : Int)) := hdep 11 (by decide) 44 rfl
          have e42 : a.tmps[42]?.getD undef = (.bool true) := hdep 9 (by decide) 42 rfl
          have hn := HNL.out.2
          exact plan_do (wanted_of 9 42 true rfl rfl e42) (plan_yield (i := 12) (V := fun _ _ v => v = (.bool true : Value)) (.bool true) (by go_simp) rfl hK)
        · intro a w' K hs' hdep hfr hK
          have e42 : a.tmps[42]?.getD undef = (.bool true) := hdep 9 (by decide) 42 rfl
          have e45 : a.tmps[45]?.getD undef = (.bool true) := hdep 12 (by decide) 45 rfl
          exact plan_do (by rfl) (plan_yield (i := 13) (V := fun _ _ v => v = (.bool true : Value)) (.bool true) (by go_simp) rfl hK)
        · intro a w' K hs' hdep hfr hK
          have e46 : a.tmps[46]?.getD undef = (.bool true) := hdep 13 (by decide) 46 rfl
          exact plan_do (by rfl) (plan_yield (i := 14) (V := fun _ _ v => v = (.bool true : Value)) (.bool true) (by go_simp) rfl hK)
        · intro a w' K hs' hdep hfr hK
          have e47 : a.tmps[47]?.getD undef = (.bool true) := hdep 14 (by decide) 47 rfl
          have f5 := hfr 5 (by decide)
          exact plan_do (wanted_of 14 47 true rfl rfl e47) (plan_yield (i := 15) (V := fun _ _ v => v = (.slice (some xa) n xc : Value)) (.slice (some xa) n xc) (by go_simp) rfl hK)
        · intro a w' K hs' hdep hfr hK
          have e48 : a.tmps[48]?.getD undef = (.slice (some xa) n xc) := hdep 15 (by decide) 48 rfl
          have e47 : a.tmps[47]?.getD undef = (.bool true) := hdep 14 (by decide) 47 rfl
          exact plan_do (wanted_of 14 47 true rfl rfl e47) (plan_yield (i := 16) (V := fun _ _ v => v = (.int .i64 (n : Int) : Value)) (.int .i64 (n : Int)) (by go_simp) rfl hK)
        · intro a w' K hs' hdep hfr hK
          have e49 : a.tmps[49]?.getD undef = (.int .i64 (n : Int)) := hdep 16 (by decide) 49 rfl
          have e47 : a.tmps[47]?.getD undef = (.bool true) := hdep 14 (by decide) 47 rfl
          have hn := HNL.out.1
          exact plan_do (wanted_of 14 47 true rfl rfl e47) (plan_yield (i := 17) (V := fun _ _ v => v = (.bool true : Value)) (.bool true) (by go_simp) rfl hK)
        · intro a w' K hs' hdep hfr hK
          have e47 : a.tmps[47]?.getD undef = (.bool true) := hdep 14 (by decide) 47 rfl
          have e50 : a.tmps[50]?.getD undef = (.bool true) := hdep 17 (by decide) 50 rfl
          exact plan_do (by rfl) (plan_yield (i := 18) (V := fun _ _ v => v = (.bool true : Value)) (.bool true) (by go_simp) rfl hK)
        · intro a w' K hs' hdep hfr hK
          have e51 : a.tmps[51]?.getD undef = (.bool true) := hdep 18 (by decide) 51 rfl
          exact plan_do (by rfl) (plan_yield (i := 19) (V := fun _ _ v => v = (.bool true : Value)) (.bool true) (by go_simp) rfl hK)
      intro a wz hkz hdef hsz hv hfr
      have e4 : a.tmps[4]?.getD undef = (.bool true) := hv 19 4 rfl
      have he := act_eq a _ [some 33, some 34, some 35, some 36, some 37, some 38, some 39, some 40, some 41, some 42, some 43, some 44, some 45, some 46, some 47, some 48, some 49, some 50, some 51, some 4] 52 rfl hsz hdef hfr (fun d => a.tmps[d]?.getD undef) (fun _ _ => rfl)
      obtain ⟨v33, h33⟩ : ∃ v, a.tmps[33]?.getD undef = v := ⟨_, rfl⟩
      obtain ⟨v34, h34⟩ : ∃ v, a.tmps[34]?.getD undef = v := ⟨_, rfl⟩
      obtain ⟨v35, h35⟩ : ∃ v, a.tmps[35]?.getD undef = v := ⟨_, rfl⟩
      obtain ⟨v36, h36⟩ : ∃ v, a.tmps[36]?.getD undef = v := ⟨_, rfl⟩
      obtain ⟨v37, h37⟩ : ∃ v, a.tmps[37]?.getD undef = v := ⟨_, rfl⟩
      obtain ⟨v38, h38⟩ : ∃ v, a.tmps[38]?.getD undef = v := ⟨_, rfl⟩
      obtain ⟨v39, h39⟩ : ∃ v, a.tmps[39]?.getD undef = v := ⟨_, rfl⟩
      obtain ⟨v40, h40⟩ : ∃ v, a.tmps[40]?.getD undef = v := ⟨_, rfl⟩
      obtain ⟨v41, h41⟩ : ∃ v, a.tmps[41]?.getD undef = v := ⟨_, rfl⟩
      obtain ⟨v42, h42⟩ : ∃ v, a.tmps[42]?.getD undef = v := ⟨_, rfl⟩
      obtain ⟨v43, h43⟩ : ∃ v, a.tmps[43]?.getD undef = v := ⟨_, rfl⟩
      obtain ⟨v44, h44⟩ : ∃ v, a.tmps[44]?.getD undef = v := ⟨_, rfl⟩
      obtain ⟨v45, h45⟩ : ∃ v, a.tmps[45]?.getD undef = v := ⟨_, rfl⟩
      obtain ⟨v46, h46⟩ : ∃ v, a.tmps[46]?.getD undef = v := ⟨_, rfl⟩
      obtain ⟨v47, h47⟩ : ∃ v, a.tmps[47]?.getD undef = v := ⟨_, rfl⟩
      obtain ⟨v48, h48⟩ : ∃ v, a.tmps[48]?.getD undef = v := ⟨_, rfl⟩
      obtain ⟨v49, h49⟩ : ∃ v, a.tmps[49]?.getD undef = v := ⟨_, rfl⟩
      obtain ⟨v50, h50⟩ : ∃ v, a.tmps[50]?.getD undef = v := ⟨_, rfl⟩
      obtain ⟨v51, h51⟩ : ∃ v, a.tmps[51]?.getD undef = v := ⟨_, rfl⟩
      simp only [putAll, e4, h33, h34, h35, h36, h37, h38, h39, h40, h41, h42, h43, h44, h45, h46, h47, h48, h49, h50, h51, List.setIfInBounds_toArray, List.set_cons_zero, List.set_cons_succ] at he
      clear e4 h33 h34 h35 h36 h37 h38 h39 h40 h41 h42 h43 h44 h45 h46 h47 h48 h49 h50 h51 hdef hsz hv hfr
      subst he
      have HKZ := Lib.hid (HS.out.trans hkz (fun _ _ e => e))
      clear hkz
      go_wp2
      go_ret
      exact ⟨rfl, HKZ.out⟩
  · have HEQ : Hid (¬ NodeEq lv lv2 ps ps2 ks ks2) := Lib.hid (fun e => hXY (HIFF.out.2 e))
    have HXY := Lib.hid hXY
    clear hXY
    go_wp2
    · skip
      refine wp_region_do [[], [0], [], [2], [1, 3], [], [], [5, 6], [4, 7], [8, 7], [9], [10, 9], [11, 9], [9, 12], [13, 9], [14], [15, 14], [16, 14], [14, 17], [18, 14, 0, 1, 2, 3, 4, 5, 6, 7, 8, 9, 10, 11, 12, 13, 14, 15, 16, 17, 18]]
        [some 33, some 34, some 35, some 36, some 37, some 38, some 39, some 40, some 41, some 42, some 43, some 44, some 45, some 46, some 47, some 48, some 49, some 50, some 51, some 4]
        [.is (.slice (some xa) n xc), .is (.string ⟨X.toArray⟩), .is (.slice (some ya) m yc), .is (.string ⟨Y.toArray⟩), .is (.bool false), .is (nodeV lv po ps.length pc ko ks.length kc), .is (nodeV lv2 po2 ps2.length pc2 ko2 ks2.length kc2), .is (.bool false), .is (.bool true), .is (.bool true), .is (.slice (some xa) n xc), .is (.int .i64 (n : Int)), .is (.bool true), .is (.bool true), .is (.bool true), .is (.slice (some xa) n xc), .is (.int .i64 (n : Int)), .is (.bool true), .is (.bool true), .is (.bool true)]
        9 _ _ 52 20 (by kernel_rfl) (by rfl) (by rfl) (by kernel_rfl) (by kernel_rfl) (by decide) ?_ ?_
      · refine ⟨?_, ?_, ?_, ?_, ?_, ?_, ?_, ?_, ?_, ?_, ?_, ?_, ?_, ?_, ?_, ?_, ?_, ?_, ?_, ?_, trivial⟩
        · intro a w' K hs' hdep hfr hK
          have f5 := hfr 5 (by decide)
          exact plan_do (by rfl) (plan_yield (i := 0) (V := fun _ _ v => v = (.slice (some xa) n xc : Value)) (.slice (some xa) n xc) (by go_simp) rfl hK)
        · intro a w' K hs' hdep hfr hK
          have e33 : a.tmps[33]?.getD undef = (.slice (some xa) n xc) := hdep 0 (by decide) 33 rfl
          have k := bytes_str (HBX.out.same hs') HSX.out
          exact plan_do (by rfl) (plan_yield (i := 1) (V := fun _ _ v => v = (.string ⟨X.toArray⟩ : Value)) (.string ⟨X.toArray⟩) (by go_simp) rfl hK)
        · intro a w' K hs' hdep hfr hK
          have f7 := hfr 7 (by decide)
          exact plan_do (by rfl) (plan_yield (i := 2) (V := fun _ _ v => v = (.slice (some ya) m yc : Value)) (.slice (some ya) m yc) (by go_simp) rfl hK)
        · intro a w' K hs' hdep hfr hK
          have e35 : a.tmps[35]?.getD undef = (.slice (some ya) m yc) := hdep 2 (by decide) 35 rfl
          have k := bytes_str (HBY.out.same hs') HSY.out
          exact plan_do (by rfl) (plan_yield (i := 3) (V := fun _ _ v => v = (.string ⟨Y.toArray⟩ : Value)) (.string ⟨Y.toArray⟩) (by go_simp) rfl hK)
        · intro a w' K hs' hdep hfr hK
          have e34 : a.tmps[34]?.getD undef = (.string ⟨X.toArray⟩) := hdep 1 (by decide) 34 rfl
          have e36 : a.tmps[36]?.getD undef = (.string ⟨Y.toArray⟩) := hdep 3 (by decide) 36 rfl
          have z1 := str_list X
          have z2 := str_list Y
          have z3 := HXY.out
          have z4 : (X == Y) = false := by simpa using z3
          exact plan_do (by rfl) (plan_yield (i := 4) (V := fun _ _ v => v = (.bool false : Value)) (.bool false) (by go_simp) rfl hK)
        · intro a w' K hs' hdep hfr hK
          have f2 := hfr 2 (by decide)
          obtain ⟨cl0, cl1, cl2⟩ := cell_of_three (hs'.obj HA.out (fun e => e))
          exact plan_do (by rfl) (plan_yield (i := 5) (V := fun _ _ v => v = (nodeV lv po ps.length pc ko ks.length kc : Value)) (nodeV lv po ps.length pc ko ks.length kc) (by go_simp) rfl hK)
        · intro a w' K hs' hdep hfr hK
          have f3 := hfr 3 (by decide)
          obtain ⟨cl0, cl1, cl2⟩ := cell_of_three (hs'.obj HB.out (fun e => e))
          exact plan_do (by rfl) (plan_yield (i := 6) (V := fun _ _ v => v = (nodeV lv2 po2 ps2.length pc2 ko2 ks2.length kc2 : Value)) (nodeV lv2 po2 ps2.length pc2 ko2 ks2.length kc2) (by go_simp) rfl hK)
        · intro a w' K hs' hdep hfr hK
          have e38 : a.tmps[38]?.getD undef = (nodeV lv po ps.length pc ko ks.length kc) := hdep 5 (by decide) 38 rfl
          have e39 : a.tmps[39]?.getD undef = (nodeV lv2 po2 ps2.length pc2 ko2 ks2.length kc2) := hdep 6 (by decide) 39 rfl
          refine plan_do (by rfl) (plan_call 12 #[nodeV lv po ps.length pc ko ks.length kc, nodeV lv2 po2 ps2.length pc2 ko2 ks2.length kc2] (by go_simp) ?_)
          refine (sameNode_any lv lv2 po ko po2 ko2 _ pc _ kc _ pc2 _ kc2 ps ps2 ks ks2 w' (HNA.out.same hs') (HNB.out.same hs') rfl rfl rfl rfl (by have := HPB.out; omega) (by have := HPB.out; omega)).mono fun e w'' ⟨b, he, hk, hb⟩ => ⟨_, he, hK _ _ hk ?_⟩
          cases b with
          | false => rfl
          | true => exact absurd (hb.1 rfl) HEQ.out
        · intro a w' K hs' hdep hfr hK
          have e37 : a.tmps[37]?.getD undef = (.bool false) := hdep 4 (by decide) 37 rfl
          have e40 : a.tmps[40]?.getD undef = (.bool false) := hdep 7 (by decide) 40 rfl
          exact plan_do (by rfl) (plan_yield (i := 8) (V := fun _ _ v => v = (.bool true : Value)) (.bool true) (by go_simp) rfl hK)
        · intro a w' K hs' hdep hfr hK
          have e41 : a.tmps[41]?.getD undef = (.bool true) := hdep 8 (by decide) 41 rfl
          exact plan_do (by rfl) (plan_yield (i := 9) (V := fun _ _ v => v = (.bool true : Value)) (.bool true) (by go_simp) rfl hK)
        · intro a w' K hs' hdep hfr hK
          have e42 : a.tmps[42]?.getD undef = (.bool true) := hdep 9 (by decide) 42 rfl
          have f5 := hfr 5 (by decide)
          exact plan_do (wanted_of 9 42 true rfl rfl e42) (plan_yield (i := 10) (V := fun _ _ v => v = (.slice (some xa) n xc : Value)) (.slice (some xa) n xc) (by go_simp) rfl hK)
        · intro a w' K hs' hdep hfr hK
          have e43 : a.tmps[43]?.getD undef = (.slice (some xa) n xc) := hdep 10 (by decide) 43 rfl
          have e42 : a.tmps[42]?.getD undef = (.bool true) := hdep 9 (by decide) 42 rfl
          exact plan_do (wanted_of 9 42 true rfl rfl e42) (plan_yield (i := 11) (V := fun _ _ v => v = (.int .i64 (n : Int) : Value)) (.int .i64 (n : Int)) (by go_simp) rfl hK)
        · intro a w' K hs' hdep hfr hK
          have e44 : a.tmps[44]?.getD undef = (.int .i64 (n : Int)) := hdep 11 (by decide) 44 rfl
          have e42 : a.tmps[42]?.getD undef = (.bool true) := hdep 9 (by decide) 42 rfl
          have hn := HNL.out.2
          exact plan_do (wanted_of 9 42 true rfl rfl e42) (plan_yield (i := 12) (V := fun _ _ v => v = (.bool true : Value)) (.bool true) (by go_simp) rfl hK)
        · intro a w' K hs' hdep hfr hK
          have e42 : a.tmps[42]?.getD undef = (.bool true) := hdep 9 (by decide) 42 rfl
          have e45 : a.tmps[45]?.getD undef = (.bool true) := hdep 12 (by decide) 45 rfl
          exact plan_do (by rfl) (plan_yield (i := 13) (V := fun _ _ v => v = (.bool true : Value)) (.bool true) (by go_simp) rfl hK)
        · intro a w' K hs' hdep hfr hK
          have e46 : a.tmps[46]?.getD undef = (.bool true) := hdep 13 (by decide) 46 rfl
          exact plan_do (by rfl) (plan_yield (i := 14) (V := fun _ _ v => v = (.bool true : Value)) (.bool true) (by go_simp) rfl hK)
        · intro a w' K hs' hdep hfr hK
          have e47 : a.tmps[47]?.getD undef = (.bool true) := hdep 14 (by decide) 47 rfl
          have f5 := hfr 5 (by decide)
          exact plan_do (wanted_of 14 47 true rfl rfl e47) (plan_yield (i := 15) (V := fun _ _ v => v = (.slice (some xa) n xc : Value)) (.slice (some xa) n xc) (by go_simp) rfl hK)
        · intro a w' K hs' hdep hfr hK
          have e48 : a.tmps[48]?.getD undef = (.slice (some xa) n xc) := hdep 15 (by decide) 48 rfl
          have e47 : a.tmps[47]?.getD undef = (.bool true) := hdep 14 (by decide) 47 rfl
          exact plan_do (wanted_of 14 47 true rfl rfl e47) (plan_yield (i := 16) (V := fun _ _ v => v = (.int .i64 (n : Int) : Value)) (.int .i64 (n : Int)) (by go_simp) rfl hK)
        · intro a w' K hs' hdep hfr hK
          have e49 : a.tmps[49]?.getD undef = (.int .i64 (n : Int)) := hdep 16 (by decide) 49 rfl
          have e47 : a.tmps[47]?.getD undef = (.bool true) := hdep 14 (by decide) 47 rfl
          have hn := HNL.out.1
          exact plan_do (wanted_of 14 47 true rfl rfl e47) (plan_yield (i := 17) (V := fun _ _ v => v = (.bool true : Value)) (.bool true) (by go_simp) rfl hK)
        · intro a w' K hs' hdep hfr hK
          have e47 : a.tmps[47]?.getD undef = (.bool true) := hdep 14 (by decide) 47 rfl
          have e50 : a.tmps[50]?.getD undef = (.bool true) := hdep 17 (by decide) 50 rfl
          exact plan_do (by rfl) (plan_yield (i := 18) (V := fun _ _ v => v = (.bool true : Value)) (.bool true) (by go_simp) rfl hK)
        · intro a w' K hs' hdep hfr hK
          have e51 : a.tmps[51]?.getD undef = (.bool true) := hdep 18 (by decide) 51 rfl
          exact plan_do (by rfl) (plan_yield (i := 19) (V := fun _ _ v => v = (.bool true : Value)) (.bool true) (by go_simp) rfl hK)
      intro a wz hkz hdef hsz hv hfr
      have e4 : a.tmps[4]?.getD undef = (.bool true) := hv 19 4 rfl
      have he := act_eq a _ [some 33, some 34, some 35, some 36, some 37, some 38, some 39, some 40, some 41, some 42, some 43, some 44, some 45, some 46, some 47, some 48, some 49, some 50, some 51, some 4] 52 rfl hsz hdef hfr (fun d => a.tmps[d]?.getD undef) (fun _ _ => rfl)
      obtain ⟨v33, h33⟩ : ∃ v, a.tmps[33]?.getD undef = v := ⟨_, rfl⟩
      obtain ⟨v34, h34⟩ : ∃ v, a.tmps[34]?.getD undef = v := ⟨_, rfl⟩
      obtain ⟨v35, h35⟩ : ∃ v, a.tmps[35]?.getD undef = v := ⟨_, rfl⟩
      obtain ⟨v36, h36⟩ : ∃ v, a.tmps[36]?.getD undef = v := ⟨_, rfl⟩
      obtain ⟨v37, h37⟩ : ∃ v, a.tmps[37]?.getD undef = v := ⟨_, rfl⟩
      obtain ⟨v38, h38⟩ : ∃ v, a.tmps[38]?.getD undef = v := ⟨_, rfl⟩
      obtain ⟨v39, h39⟩ : ∃ v, a.tmps[39]?.getD undef = v := ⟨_, rfl⟩
      obtain ⟨v40, h40⟩ : ∃ v, a.tmps[40]?.getD undef = v := ⟨_, rfl⟩
      obtain ⟨v41, h41⟩ : ∃ v, a.tmps[41]?.getD undef = v := ⟨_, rfl⟩
      obtain ⟨v42, h42⟩ : ∃ v, a.tmps[42]?.getD undef = v := ⟨_, rfl⟩
      obtain ⟨v43, h43⟩ : ∃ v, a.tmps[43]?.getD undef = v := ⟨_, rfl⟩
      obtain ⟨v44, h44⟩ : ∃ v, a.tmps[44]?.getD undef = v := ⟨_, rfl⟩
      obtain ⟨v45, h45⟩ : ∃ v, a.tmps[45]?.getD undef = v := ⟨_, rfl⟩
      obtain ⟨v46, h46⟩ : ∃ v, a.tmps[46]?.getD undef = v := ⟨_, rfl⟩
      obtain ⟨v47, h47⟩ : ∃ v, a.tmps[47]?.getD undef = v := ⟨_, rfl⟩
      obtain ⟨v48, h48⟩ : ∃ v, a.tmps[48]?.getD undef = v := ⟨_, rfl⟩
      obtain ⟨v49, h49⟩ : ∃ v, a.tmps[49]?.getD undef = v := ⟨_, rfl⟩
      obtain ⟨v50, h50⟩ : ∃ v, a.tmps[50]?.getD undef = v := ⟨_, rfl⟩
      obtain ⟨v51, h51⟩ : ∃ v, a.tmps[51]?.getD undef = v := ⟨_, rfl⟩
      simp only [putAll, e4, h33, h34, h35, h36, h37, h38, h39, h40, h41, h42, h43, h44, h45, h46, h47, h48, h49, h50, h51, List.setIfInBounds_toArray, List.set_cons_zero, List.set_cons_succ] at he
      clear e4 h33 h34 h35 h36 h37 h38 h39 h40 h41 h42 h43 h44 h45 h46 h47 h48 h49 h50 h51 hdef hsz hv hfr
      subst he
      have HKZ := Lib.hid (HS.out.trans hkz (fun _ _ e => e))
      clear hkz
      go_wp2
      go_ret
      exact ⟨rfl, HKZ.out⟩
end Go.Proofs.Ytdeajjppmgfemaa
