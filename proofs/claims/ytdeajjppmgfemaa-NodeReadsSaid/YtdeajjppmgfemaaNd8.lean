/- The document's Same of nodes. -/
import Derived.Test.YtdeajjppmgfemaaNd7
namespace Go.Proofs.Ytdeajjppmgfemaa
open Go.RowKit
set_option linter.unusedVariables false

def NodeEq (lv lv2 : Int) (ps ps2 : List PairX) (ks ks2 : List KidX) : Prop := lv = lv2 ∧ kvs ps = kvs ps2 ∧ kks ks = kks ks2
set_option maxRecDepth 100000 in
set_option maxHeartbeats 25600000 in
theorem sameNode_any (lv lv2 : Int) (po ko po2 ko2 : Option Addr) (pn pc n kc pn2 pc2 n2 kc2 : Nat) (ps ps2 : List PairX) (ks ks2 : List KidX) (w : World) (h : NodeAt w po ko ps ks pc kc) (h2 : NodeAt w po2 ko2 ps2 ks2 pc2 kc2)
    (hp : ps.length = pn) (hk : ks.length = n) (hp2 : ps2.length = pn2) (hk2 : ks2.length = n2) (hpl : pn ≤ 1000000) (hkl : n ≤ 1000000) :
    Calls Try.prog 12 #[nodeV lv po pn pc ko n kc, nodeV lv2 po2 pn2 pc2 ko2 n2 kc2] w (BoolPost w (NodeEq lv lv2 ps ps2 ks ks2)) := by
  obtain ⟨w2, hw2⟩ : ∃ w2, (w.alloc (.cells #[.int .i64 lv, .slice po pn pc, .slice ko n kc] 25)).alloc (.cells #[.int .i64 lv2, .slice po2 pn2 pc2, .slice ko2 n2 kc2] 25) = w2 := ⟨_, rfl⟩
  have HB1 : Hid (Whole w2 w.heap.size 25 [.int .i64 lv, .slice po pn pc, .slice ko n kc]) := Lib.hid (by rw [← hw2]; exact heap_alloc2_old w _ _)
  have HB2 : Hid (Whole w2 (w.heap.size + 1) 25 [.int .i64 lv2, .slice po2 pn2 pc2, .slice ko2 n2 kc2]) := Lib.hid (by rw [← hw2]; exact heap_alloc2_new w _ _)
  have HS0 : Hid (Same w w2) := Lib.hid (by rw [← hw2]; exact ((Keeps.refl _ _).alloc _).alloc _)
  have HW2 := Lib.hid hw2
  have HPL : Hid (ps.length = pn ∧ ps2.length = pn2) := Lib.hid ⟨hp, hp2⟩
  have HKL : Hid (ks.length = n ∧ ks2.length = n2) := Lib.hid ⟨hk, hk2⟩
  have HH := Lib.hid h
  have HH2 := Lib.hid h2
  have HZ := Lib.hid Try.sizeHash
  clear hp hk hp2 hk2 h h2 hw2
  by_cases hlv : lv = lv2
  · subst hlv
    go_enter Try.func12, Try.ntmps12
    go_wp2_with fail
    rw [HW2.out]
    have c1 := HB1.out.cell (i := 1) rfl
    have c2 := HB2.out.cell (i := 1) rfl
    go_wp2_with fail
    ((with_reducible refine (samePairs_any po po2 pn pn2 pc pc2 ps ps2 _ (HH.out.pairs.same HS0.out) (HH2.out.pairs.same HS0.out) HPL.out.1 HPL.out.2 hpl).mono ?_); rintro e w3 ⟨b, rfl, hk3, hb⟩)
    have HB13 := Lib.hid (HB1.out.keep hk3 (fun e => e))
    have HB23 := Lib.hid (HB2.out.keep hk3 (fun e => e))
    have HS3 := Lib.hid (HS0.out.trans hk3 (fun _ _ e => e))
    have HBB := Lib.hid hb
    clear hk3 hb c1 c2 HB1 HB2 HW2
    have c1 := HB13.out.cell (i := 2) rfl
    have c2 := HB23.out.cell (i := 2) rfl
    have HB1 := Lib.hid HB13.out
    have HB2 := Lib.hid HB23.out
    clear HB13 HB23
    cases b with
    | false =>
      go_wp2
      go_ret
      exact BoolPost.no HS3.out (fun e => by have := HBB.out.2 e.2.1; simp at this)
    | true =>
    have HKV : Hid (kvs ps = kvs ps2) := Lib.hid (HBB.out.1 rfl)
    clear HBB
    by_cases hn : n = n2
    · subst hn
      go_wp2
      clear c1 c2
      go_loopw [5] (fun i wr => ∃ j : Nat, j ≤ n ∧ i = .int .i64 j ∧ (kks ks).take j = (kks ks2).take j ∧ Same w3 wr) (fun i _ => n - (intOf i).toNat)
      case atStart => exact ⟨0, by omega, rfl, by simp, Keeps.refl _ _⟩
      case round =>
        obtain ⟨j, hj, rfl, ht, hs⟩ := hrel
        have HT := Lib.hid ht
        have HS := Lib.hid hs
        have c1 := (HB1.out.keep hs (fun e => e)).cell (i := 2) rfl
        clear ht hs
        by_cases hlt : j < n
        · have hjp : j < ks.length := by have := HKL.out.1; omega
          have hjq : j < ks2.length := by have := HKL.out.2; omega
          obtain ⟨g, off, rfl, hpa⟩ : ∃ g off, ko = some ⟨g, off, none⟩ ∧ ∀ j (h : j < ks.length), KidAt w3 g (off + j * 33) ks[j] := by
            rcases HH.out.kids.same HS3.out with h | h
            · rw [h] at hjp; simp at hjp
            · exact h
          obtain ⟨g2, off2, rfl, hqa⟩ : ∃ g off, ko2 = some ⟨g, off, none⟩ ∧ ∀ j (h : j < ks2.length), KidAt w3 g (off + j * 33) ks2[j] := by
            rcases HH2.out.kids.same HS3.out with h | h
            · rw [h] at hjq; simp at hjq
            · exact h
          have HA := Lib.hid (hpa j hjp).facts
          have HB := Lib.hid (hqa j hjq).facts
          have HH1 := Lib.hid (hpa j hjp).hl
          have HH2' := Lib.hid (hqa j hjq).hl
          have HG : Hid ((kks ks)[j]? = some (ks[j].fs, ks[j].hs) ∧ (kks ks2)[j]? = some (ks2[j].fs, ks2[j].hs)) := Lib.hid (by simp [kks, hjp, hjq])
          generalize ks[j].fv = fv1 at *
          generalize ks[j].fs = k1 at *
          generalize ks[j].hs = h1 at *
          generalize ks2[j].fv = fv2 at *
          generalize ks2[j].fs = k2 at *
          generalize ks2[j].hs = h2 at *
          clear HH2
          have HH2 := HH2'
          clear HH2'
          have hjn : (j : Int) < (n : Int) := by omega
          clear hpa hqa hjp hjq
          by_cases hd : k1 = k2
          · subst hd
            by_cases hd : h1 = h2
            · subst hd
              go_wp2
              clear c1
              refine wp_region_do [[], [0], [], [1, 2], [3], [4], [5], [], [7], [], [8, 9], [10], [11], [12], [6, 13], [14], [15], [16, 15], [15], [17, 18, 15], [19, 15], [20, 15], [15], [22, 15], [15], [23, 24, 15], [25, 15], [26, 15], [21, 27, 15], [15, 28]]
                [some 35, some 36, some 37, some 38, some 39, some 40, some 41, some 42, some 43, some 44, some 45, some 46, some 47, some 48, some 49, some 50, some 51, some 52, some 53, some 54, some 55, some 56, some 57, some 58, some 59, some 60, some 61, some 62, some 63, some 64]
                [.is (.pointer (some ⟨w.heap.size, 2, none⟩)), .is (.slice (some ⟨g, off, none⟩) n kc), .is (.int .i64 (j : Int)), .is (.pointer (some ⟨g, off + j * 33, none⟩)), .is (.pointer (some ⟨g, off + j * 33, none⟩)), .is (fv1), .is (.string ⟨k1.toArray⟩), .is (.pointer (some ⟨w.heap.size + 1, 2, none⟩)), .is (.slice (some ⟨g2, off2, none⟩) n kc2), .is (.int .i64 (j : Int)), .is (.pointer (some ⟨g2, off2 + j * 33, none⟩)), .is (.pointer (some ⟨g2, off2 + j * 33, none⟩)), .is (fv2), .is (.string ⟨k1.toArray⟩), .is (.bool false), .is (.bool false), .is (.pointer (some ⟨w.heap.size, 2, none⟩)), .is (.slice (some ⟨g, off, none⟩) n kc), .is (.int .i64 (j : Int)), .is (.pointer (some ⟨g, off + j * 33, none⟩)), .is (.pointer (some ⟨g, off + j * 33 + 1, none⟩)), .is (.agg (u8s h1).toArray), .is (.pointer (some ⟨w.heap.size + 1, 2, none⟩)), .is (.slice (some ⟨g2, off2, none⟩) n kc2), .is (.int .i64 (j : Int)), .is (.pointer (some ⟨g2, off2 + j * 33, none⟩)), .is (.pointer (some ⟨g2, off2 + j * 33 + 1, none⟩)), .is (.agg (u8s h1).toArray), .is (.bool false), .is (.bool false)]
                6 _ _ 65 30 (by kernel_rfl) (by rfl) (by rfl) (by kernel_rfl) (by kernel_rfl) (by decide) ?_ ?_
              · refine ⟨?_, ?_, ?_, ?_, ?_, ?_, ?_, ?_, ?_, ?_, ?_, ?_, ?_, ?_, ?_, ?_, ?_, ?_, ?_, ?_, ?_, ?_, ?_, ?_, ?_, ?_, ?_, ?_, ?_, ?_, trivial⟩
                · intro a w' K hs' hdep hfr hK
                  have f2 := hfr 2 (by decide)
                  exact plan_do (by rfl) (plan_yield (i := 0) (V := fun _ _ v => v = (.pointer (some ⟨w.heap.size, 2, none⟩) : Value)) (.pointer (some ⟨w.heap.size, 2, none⟩)) (by go_simp) rfl hK)
                · intro a w' K hs' hdep hfr hK
                  have e35 : a.tmps[35]?.getD undef = (.pointer (some ⟨w.heap.size, 2, none⟩)) := hdep 0 (by decide) 35 rfl
                  have cl := (HB1.out.keep (HS.out.trans hs' (fun _ _ e => e)) (fun e => e)).cell (i := 2) rfl
                  exact plan_do (by rfl) (plan_yield (i := 1) (V := fun _ _ v => v = (.slice (some ⟨g, off, none⟩) n kc : Value)) (.slice (some ⟨g, off, none⟩) n kc) (by go_simp) rfl hK)
                · intro a w' K hs' hdep hfr hK
                  have f5 := hfr 5 (by decide)
                  exact plan_do (by rfl) (plan_yield (i := 2) (V := fun _ _ v => v = (.int .i64 (j : Int) : Value)) (.int .i64 (j : Int)) (by go_simp) rfl hK)
                · intro a w' K hs' hdep hfr hK
                  have e36 : a.tmps[36]?.getD undef = (.slice (some ⟨g, off, none⟩) n kc) := hdep 1 (by decide) 36 rfl
                  have e37 : a.tmps[37]?.getD undef = (.int .i64 (j : Int)) := hdep 2 (by decide) 37 rfl
                  have hin : (j : Int) < (n : Int) := by omega
                  exact plan_do (by rfl) (plan_yield (i := 3) (V := fun _ _ v => v = (.pointer (some ⟨g, off + j * 33, none⟩) : Value)) (.pointer (some ⟨g, off + j * 33, none⟩)) (by go_simp) rfl hK)
                · intro a w' K hs' hdep hfr hK
                  have e38 : a.tmps[38]?.getD undef = (.pointer (some ⟨g, off + j * 33, none⟩)) := hdep 3 (by decide) 38 rfl
                  exact plan_do (by rfl) (plan_yield (i := 4) (V := fun _ _ v => v = (.pointer (some ⟨g, off + j * 33, none⟩) : Value)) (.pointer (some ⟨g, off + j * 33, none⟩)) (by go_simp) rfl hK)
                · intro a w' K hs' hdep hfr hK
                  have e39 : a.tmps[39]?.getD undef = (.pointer (some ⟨g, off + j * 33, none⟩)) := hdep 4 (by decide) 39 rfl
                  have ca := HA.out _ (HS.out.trans hs' (fun _ _ e => e))
                  have cl := ca.1
                  exact plan_do (by rfl) (plan_yield (i := 5) (V := fun _ _ v => v = (fv1 : Value)) (fv1) (by go_simp) rfl hK)
                · intro a w' K hs' hdep hfr hK
                  have e40 : a.tmps[40]?.getD undef = (fv1) := hdep 5 (by decide) 40 rfl
                  have ca := HA.out _ (HS.out.trans hs' (fun _ _ e => e))
                  have cl := ca.2.1
                  exact plan_do (by rfl) (plan_yield (i := 6) (V := fun _ _ v => v = (.string ⟨k1.toArray⟩ : Value)) (.string ⟨k1.toArray⟩) (by go_simp) rfl hK)
                · intro a w' K hs' hdep hfr hK
                  have f3 := hfr 3 (by decide)
                  exact plan_do (by rfl) (plan_yield (i := 7) (V := fun _ _ v => v = (.pointer (some ⟨w.heap.size + 1, 2, none⟩) : Value)) (.pointer (some ⟨w.heap.size + 1, 2, none⟩)) (by go_simp) rfl hK)
                · intro a w' K hs' hdep hfr hK
                  have e42 : a.tmps[42]?.getD undef = (.pointer (some ⟨w.heap.size + 1, 2, none⟩)) := hdep 7 (by decide) 42 rfl
                  have cl := (HB2.out.keep (HS.out.trans hs' (fun _ _ e => e)) (fun e => e)).cell (i := 2) rfl
                  exact plan_do (by rfl) (plan_yield (i := 8) (V := fun _ _ v => v = (.slice (some ⟨g2, off2, none⟩) n kc2 : Value)) (.slice (some ⟨g2, off2, none⟩) n kc2) (by go_simp) rfl hK)
                · intro a w' K hs' hdep hfr hK
                  have f5 := hfr 5 (by decide)
                  exact plan_do (by rfl) (plan_yield (i := 9) (V := fun _ _ v => v = (.int .i64 (j : Int) : Value)) (.int .i64 (j : Int)) (by go_simp) rfl hK)
                · intro a w' K hs' hdep hfr hK
                  have e43 : a.tmps[43]?.getD undef = (.slice (some ⟨g2, off2, none⟩) n kc2) := hdep 8 (by decide) 43 rfl
                  have e44 : a.tmps[44]?.getD undef = (.int .i64 (j : Int)) := hdep 9 (by decide) 44 rfl
                  have hin : (j : Int) < (n : Int) := by omega
                  exact plan_do (by rfl) (plan_yield (i := 10) (V := fun _ _ v => v = (.pointer (some ⟨g2, off2 + j * 33, none⟩) : Value)) (.pointer (some ⟨g2, off2 + j * 33, none⟩)) (by go_simp) rfl hK)
                · intro a w' K hs' hdep hfr hK
                  have e45 : a.tmps[45]?.getD undef = (.pointer (some ⟨g2, off2 + j * 33, none⟩)) := hdep 10 (by decide) 45 rfl
                  exact plan_do (by rfl) (plan_yield (i := 11) (V := fun _ _ v => v = (.pointer (some ⟨g2, off2 + j * 33, none⟩) : Value)) (.pointer (some ⟨g2, off2 + j * 33, none⟩)) (by go_simp) rfl hK)
                · intro a w' K hs' hdep hfr hK
                  have e46 : a.tmps[46]?.getD undef = (.pointer (some ⟨g2, off2 + j * 33, none⟩)) := hdep 11 (by decide) 46 rfl
                  have cb := HB.out _ (HS.out.trans hs' (fun _ _ e => e))
                  have cl := cb.1
                  exact plan_do (by rfl) (plan_yield (i := 12) (V := fun _ _ v => v = (fv2 : Value)) (fv2) (by go_simp) rfl hK)
                · intro a w' K hs' hdep hfr hK
                  have e47 : a.tmps[47]?.getD undef = (fv2) := hdep 12 (by decide) 47 rfl
                  have cb := HB.out _ (HS.out.trans hs' (fun _ _ e => e))
                  have cl := cb.2.1
                  exact plan_do (by rfl) (plan_yield (i := 13) (V := fun _ _ v => v = (.string ⟨k1.toArray⟩ : Value)) (.string ⟨k1.toArray⟩) (by go_simp) rfl hK)
                · intro a w' K hs' hdep hfr hK
                  have e41 : a.tmps[41]?.getD undef = (.string ⟨k1.toArray⟩) := hdep 6 (by decide) 41 rfl
                  have e48 : a.tmps[48]?.getD undef = (.string ⟨k1.toArray⟩) := hdep 13 (by decide) 48 rfl
                  have z1 := str_list k1
                  have z2 := str_list k1
                  exact plan_do (by rfl) (plan_yield (i := 14) (V := fun _ _ v => v = (.bool false : Value)) (.bool false) (by go_simp) rfl hK)
                · intro a w' K hs' hdep hfr hK
                  have e49 : a.tmps[49]?.getD undef = (.bool false) := hdep 14 (by decide) 49 rfl
                  exact plan_do (by rfl) (plan_yield (i := 15) (V := fun _ _ v => v = (.bool false : Value)) (.bool false) (by go_simp) rfl hK)
                · intro a w' K hs' hdep hfr hK
                  have e50 : a.tmps[50]?.getD undef = (.bool false) := hdep 15 (by decide) 50 rfl
                  have f2 := hfr 2 (by decide)
                  exact plan_do (wanted_of 15 50 false rfl rfl e50) (plan_yield (i := 16) (V := fun _ _ v => v = (.pointer (some ⟨w.heap.size, 2, none⟩) : Value)) (.pointer (some ⟨w.heap.size, 2, none⟩)) (by go_simp) rfl hK)
                · intro a w' K hs' hdep hfr hK
                  have e51 : a.tmps[51]?.getD undef = (.pointer (some ⟨w.heap.size, 2, none⟩)) := hdep 16 (by decide) 51 rfl
                  have e50 : a.tmps[50]?.getD undef = (.bool false) := hdep 15 (by decide) 50 rfl
                  have cl := (HB1.out.keep (HS.out.trans hs' (fun _ _ e => e)) (fun e => e)).cell (i := 2) rfl
                  exact plan_do (wanted_of 15 50 false rfl rfl e50) (plan_yield (i := 17) (V := fun _ _ v => v = (.slice (some ⟨g, off, none⟩) n kc : Value)) (.slice (some ⟨g, off, none⟩) n kc) (by go_simp) rfl hK)
                · intro a w' K hs' hdep hfr hK
                  have e50 : a.tmps[50]?.getD undef = (.bool false) := hdep 15 (by decide) 50 rfl
                  have f5 := hfr 5 (by decide)
                  exact plan_do (wanted_of 15 50 false rfl rfl e50) (plan_yield (i := 18) (V := fun _ _ v => v = (.int .i64 (j : Int) : Value)) (.int .i64 (j : Int)) (by go_simp) rfl hK)
                · intro a w' K hs' hdep hfr hK
                  have e52 : a.tmps[52]?.getD undef = (.slice (some ⟨g, off, none⟩) n kc) := hdep 17 (by decide) 52 rfl
                  have e53 : a.tmps[53]?.getD undef = (.int .i64 (j : Int)) := hdep 18 (by decide) 53 rfl
                  have e50 : a.tmps[50]?.getD undef = (.bool false) := hdep 15 (by decide) 50 rfl
                  have hin : (j : Int) < (n : Int) := by omega
                  exact plan_do (wanted_of 15 50 false rfl rfl e50) (plan_yield (i := 19) (V := fun _ _ v => v = (.pointer (some ⟨g, off + j * 33, none⟩) : Value)) (.pointer (some ⟨g, off + j * 33, none⟩)) (by go_simp) rfl hK)
                · intro a w' K hs' hdep hfr hK
                  have e54 : a.tmps[54]?.getD undef = (.pointer (some ⟨g, off + j * 33, none⟩)) := hdep 19 (by decide) 54 rfl
                  have e50 : a.tmps[50]?.getD undef = (.bool false) := hdep 15 (by decide) 50 rfl
                  exact plan_do (wanted_of 15 50 false rfl rfl e50) (plan_yield (i := 20) (V := fun _ _ v => v = (.pointer (some ⟨g, off + j * 33 + 1, none⟩) : Value)) (.pointer (some ⟨g, off + j * 33 + 1, none⟩)) (by go_simp) rfl hK)
                · intro a w' K hs' hdep hfr hK
                  have e55 : a.tmps[55]?.getD undef = (.pointer (some ⟨g, off + j * 33 + 1, none⟩)) := hdep 20 (by decide) 55 rfl
                  have e50 : a.tmps[50]?.getD undef = (.bool false) := hdep 15 (by decide) 50 rfl
                  exact plan_do (wanted_of 15 50 false rfl rfl e50) (wp_load_mid (P := Try.prog) 44 (.tmp 55) rfl g (off + j * 33 + 1) ((eval_tmp _ _).trans e55) (u8s h1) _ (HA.out _ (HS.out.trans hs' (fun _ _ e => e))).2.2 Try.underlying44 rfl (HZ.out.trans (congrArg some (by rw [u8s_length, HH1.out]))) (hK _ _ (Keeps.refl _ _) rfl))
                · intro a w' K hs' hdep hfr hK
                  have e50 : a.tmps[50]?.getD undef = (.bool false) := hdep 15 (by decide) 50 rfl
                  have f3 := hfr 3 (by decide)
                  exact plan_do (wanted_of 15 50 false rfl rfl e50) (plan_yield (i := 22) (V := fun _ _ v => v = (.pointer (some ⟨w.heap.size + 1, 2, none⟩) : Value)) (.pointer (some ⟨w.heap.size + 1, 2, none⟩)) (by go_simp) rfl hK)
                · intro a w' K hs' hdep hfr hK
                  have e57 : a.tmps[57]?.getD undef = (.pointer (some ⟨w.heap.size + 1, 2, none⟩)) := hdep 22 (by decide) 57 rfl
                  have e50 : a.tmps[50]?.getD undef = (.bool false) := hdep 15 (by decide) 50 rfl
                  have cl := (HB2.out.keep (HS.out.trans hs' (fun _ _ e => e)) (fun e => e)).cell (i := 2) rfl
                  exact plan_do (wanted_of 15 50 false rfl rfl e50) (plan_yield (i := 23) (V := fun _ _ v => v = (.slice (some ⟨g2, off2, none⟩) n kc2 : Value)) (.slice (some ⟨g2, off2, none⟩) n kc2) (by go_simp) rfl hK)
                · intro a w' K hs' hdep hfr hK
                  have e50 : a.tmps[50]?.getD undef = (.bool false) := hdep 15 (by decide) 50 rfl
                  have f5 := hfr 5 (by decide)
                  exact plan_do (wanted_of 15 50 false rfl rfl e50) (plan_yield (i := 24) (V := fun _ _ v => v = (.int .i64 (j : Int) : Value)) (.int .i64 (j : Int)) (by go_simp) rfl hK)
                · intro a w' K hs' hdep hfr hK
                  have e58 : a.tmps[58]?.getD undef = (.slice (some ⟨g2, off2, none⟩) n kc2) := hdep 23 (by decide) 58 rfl
                  have e59 : a.tmps[59]?.getD undef = (.int .i64 (j : Int)) := hdep 24 (by decide) 59 rfl
                  have e50 : a.tmps[50]?.getD undef = (.bool false) := hdep 15 (by decide) 50 rfl
                  have hin : (j : Int) < (n : Int) := by omega
                  exact plan_do (wanted_of 15 50 false rfl rfl e50) (plan_yield (i := 25) (V := fun _ _ v => v = (.pointer (some ⟨g2, off2 + j * 33, none⟩) : Value)) (.pointer (some ⟨g2, off2 + j * 33, none⟩)) (by go_simp) rfl hK)
                · intro a w' K hs' hdep hfr hK
                  have e60 : a.tmps[60]?.getD undef = (.pointer (some ⟨g2, off2 + j * 33, none⟩)) := hdep 25 (by decide) 60 rfl
                  have e50 : a.tmps[50]?.getD undef = (.bool false) := hdep 15 (by decide) 50 rfl
                  exact plan_do (wanted_of 15 50 false rfl rfl e50) (plan_yield (i := 26) (V := fun _ _ v => v = (.pointer (some ⟨g2, off2 + j * 33 + 1, none⟩) : Value)) (.pointer (some ⟨g2, off2 + j * 33 + 1, none⟩)) (by go_simp) rfl hK)
                · intro a w' K hs' hdep hfr hK
                  have e61 : a.tmps[61]?.getD undef = (.pointer (some ⟨g2, off2 + j * 33 + 1, none⟩)) := hdep 26 (by decide) 61 rfl
                  have e50 : a.tmps[50]?.getD undef = (.bool false) := hdep 15 (by decide) 50 rfl
                  exact plan_do (wanted_of 15 50 false rfl rfl e50) (wp_load_mid (P := Try.prog) 44 (.tmp 61) rfl g2 (off2 + j * 33 + 1) ((eval_tmp _ _).trans e61) (u8s h1) _ (HB.out _ (HS.out.trans hs' (fun _ _ e => e))).2.2 Try.underlying44 rfl (HZ.out.trans (congrArg some (by rw [u8s_length, HH1.out]))) (hK _ _ (Keeps.refl _ _) rfl))
                · intro a w' K hs' hdep hfr hK
                  have e56 : a.tmps[56]?.getD undef = (.agg (u8s h1).toArray) := hdep 21 (by decide) 56 rfl
                  have e62 : a.tmps[62]?.getD undef = (.agg (u8s h1).toArray) := hdep 27 (by decide) 62 rfl
                  have e50 : a.tmps[50]?.getD undef = (.bool false) := hdep 15 (by decide) 50 rfl
                  refine plan_do (wanted_of 15 50 false rfl rfl e50) (plan_go (.bool false) w' (Eq.trans (exec_neq_is (.tmp 56) (.tmp 62) 44 44 (by rfl) (u8s h1).toArray (u8s h1).toArray (decide (h1 = h1)) ((eval_tmp _ _).trans e56) ((eval_tmp _ _).trans e62) Try.hashGuardH (hash_equal h1 h1 HH1.out HH1.out)) ?_) (hK _ _ (Keeps.refl _ _) rfl))
                  simp
                · intro a w' K hs' hdep hfr hK
                  have e50 : a.tmps[50]?.getD undef = (.bool false) := hdep 15 (by decide) 50 rfl
                  have e63 : a.tmps[63]?.getD undef = (.bool false) := hdep 28 (by decide) 63 rfl
                  exact plan_do (by rfl) (plan_yield (i := 29) (V := fun _ _ v => v = (.bool false : Value)) (.bool false) (by go_simp) rfl hK)
              intro a wz hkz hdef hsz hv hfr
              have e64 : a.tmps[64]?.getD undef = (.bool false) := hv 29 64 rfl
              have he := act_eq a _ [some 35, some 36, some 37, some 38, some 39, some 40, some 41, some 42, some 43, some 44, some 45, some 46, some 47, some 48, some 49, some 50, some 51, some 52, some 53, some 54, some 55, some 56, some 57, some 58, some 59, some 60, some 61, some 62, some 63, some 64] 65 rfl hsz hdef hfr (fun d => a.tmps[d]?.getD undef) (fun _ _ => rfl)
              obtain ⟨v35, h35⟩ : ∃ v, a.tmps[35]?.getD undef = v := ⟨_, rfl⟩
              obtain ⟨v36, h36⟩ : ∃ v, a.tmps[36]?.getD undef = v := ⟨_, rfl⟩
              obtain ⟨v37, h37⟩ : ∃ v, a.tmps[37]?.getD undef = v := ⟨_, rfl⟩
              obtain ⟨v38, h38⟩ : ∃ v, a.tmps[38]?.getD undef = v := ⟨_, rfl⟩
              obtain ⟨v39, h39⟩ : ∃ v, a.tmps[39]?.getD undef = v := ⟨_, rfl⟩
              obtain ⟨v40, h40⟩ : ∃ v, a.tmps[40]?.getD undef = v := ⟨_, rfl⟩
              obtain ⟨v41, h41⟩ : ∃ v, a.tmps[41]?.getD undef = v := ⟨_, rfl⟩
              obtain ⟨v42, h42⟩ : ∃ v, a.tmps[42]?.getD undef = v := ⟨_, rfl⟩
              obtain ⟨v43, h43⟩ : ∃ v, a.tmps[43]?.getD undef = v := ⟨_, rfl⟩
              obtain ⟨v44, h44⟩ : ∃ v, a.tmps[44]?.getD undef = v := ⟨_, rfl⟩
              obtain ⟨v45, h45⟩ : ∃ v, a.tmps[45]?.getD undef = v := ⟨_, rfl⟩
              obtain ⟨v46, h46⟩ : ∃ v, a.tmps[46]?.getD undef = v := ⟨_, rfl⟩
              obtain ⟨v47, h47⟩ : ∃ v, a.tmps[47]?.getD undef = v := ⟨_, rfl⟩
              obtain ⟨v48, h48⟩ : ∃ v, a.tmps[48]?.getD undef = v := ⟨_, rfl⟩
              obtain ⟨v49, h49⟩ : ∃ v, a.tmps[49]?.getD undef = v := ⟨_, rfl⟩
              obtain ⟨v50, h50⟩ : ∃ v, a.tmps[50]?.getD undef = v := ⟨_, rfl⟩
              obtain ⟨v51, h51⟩ : ∃ v, a.tmps[51]?.getD undef = v := ⟨_, rfl⟩
              obtain ⟨v52, h52⟩ : ∃ v, a.tmps[52]?.getD undef = v := ⟨_, rfl⟩
              obtain ⟨v53, h53⟩ : ∃ v, a.tmps[53]?.getD undef = v := ⟨_, rfl⟩
              obtain ⟨v54, h54⟩ : ∃ v, a.tmps[54]?.getD undef = v := ⟨_, rfl⟩
              obtain ⟨v55, h55⟩ : ∃ v, a.tmps[55]?.getD undef = v := ⟨_, rfl⟩
              obtain ⟨v56, h56⟩ : ∃ v, a.tmps[56]?.getD undef = v := ⟨_, rfl⟩
              obtain ⟨v57, h57⟩ : ∃ v, a.tmps[57]?.getD undef = v := ⟨_, rfl⟩
              obtain ⟨v58, h58⟩ : ∃ v, a.tmps[58]?.getD undef = v := ⟨_, rfl⟩
              obtain ⟨v59, h59⟩ : ∃ v, a.tmps[59]?.getD undef = v := ⟨_, rfl⟩
              obtain ⟨v60, h60⟩ : ∃ v, a.tmps[60]?.getD undef = v := ⟨_, rfl⟩
              obtain ⟨v61, h61⟩ : ∃ v, a.tmps[61]?.getD undef = v := ⟨_, rfl⟩
              obtain ⟨v62, h62⟩ : ∃ v, a.tmps[62]?.getD undef = v := ⟨_, rfl⟩
              obtain ⟨v63, h63⟩ : ∃ v, a.tmps[63]?.getD undef = v := ⟨_, rfl⟩
              simp only [putAll, e64, h35, h36, h37, h38, h39, h40, h41, h42, h43, h44, h45, h46, h47, h48, h49, h50, h51, h52, h53, h54, h55, h56, h57, h58, h59, h60, h61, h62, h63, List.setIfInBounds_toArray, List.set_cons_zero, List.set_cons_succ] at he
              clear e64 h35 h36 h37 h38 h39 h40 h41 h42 h43 h44 h45 h46 h47 h48 h49 h50 h51 h52 h53 h54 h55 h56 h57 h58 h59 h60 h61 h62 h63 hdef hsz hv hfr
              subst he
              have HKZ := Lib.hid hkz
              clear hkz
              go_wp2
              go_roundw
              case rel => exact ⟨j + 1, by omega, by go_num, take_step HT.out HG.out.1 HG.out.2, HS.out.trans HKZ.out (fun _ _ e => e)⟩
              case measure => simp [intOf]; omega
            · have HD := Lib.hid hd
              clear hd
              go_wp2
              clear c1
              refine wp_region_do [[], [0], [], [1, 2], [3], [4], [5], [], [7], [], [8, 9], [10], [11], [12], [6, 13], [14], [15], [16, 15], [15], [17, 18, 15], [19, 15], [20, 15], [15], [22, 15], [15], [23, 24, 15], [25, 15], [26, 15], [21, 27, 15], [15, 28]]
                [some 35, some 36, some 37, some 38, some 39, some 40, some 41, some 42, some 43, some 44, some 45, some 46, some 47, some 48, some 49, some 50, some 51, some 52, some 53, some 54, some 55, some 56, some 57, some 58, some 59, some 60, some 61, some 62, some 63, some 64]
                [.is (.pointer (some ⟨w.heap.size, 2, none⟩)), .is (.slice (some ⟨g, off, none⟩) n kc), .is (.int .i64 (j : Int)), .is (.pointer (some ⟨g, off + j * 33, none⟩)), .is (.pointer (some ⟨g, off + j * 33, none⟩)), .is (fv1), .is (.string ⟨k1.toArray⟩), .is (.pointer (some ⟨w.heap.size + 1, 2, none⟩)), .is (.slice (some ⟨g2, off2, none⟩) n kc2), .is (.int .i64 (j : Int)), .is (.pointer (some ⟨g2, off2 + j * 33, none⟩)), .is (.pointer (some ⟨g2, off2 + j * 33, none⟩)), .is (fv2), .is (.string ⟨k1.toArray⟩), .is (.bool false), .is (.bool false), .is (.pointer (some ⟨w.heap.size, 2, none⟩)), .is (.slice (some ⟨g, off, none⟩) n kc), .is (.int .i64 (j : Int)), .is (.pointer (some ⟨g, off + j * 33, none⟩)), .is (.pointer (some ⟨g, off + j * 33 + 1, none⟩)), .is (.agg (u8s h1).toArray), .is (.pointer (some ⟨w.heap.size + 1, 2, none⟩)), .is (.slice (some ⟨g2, off2, none⟩) n kc2), .is (.int .i64 (j : Int)), .is (.pointer (some ⟨g2, off2 + j * 33, none⟩)), .is (.pointer (some ⟨g2, off2 + j * 33 + 1, none⟩)), .is (.agg (u8s h2).toArray), .is (.bool true), .is (.bool true)]
                6 _ _ 65 30 (by kernel_rfl) (by rfl) (by rfl) (by kernel_rfl) (by kernel_rfl) (by decide) ?_ ?_
              · refine ⟨?_, ?_, ?_, ?_, ?_, ?_, ?_, ?_, ?_, ?_, ?_, ?_, ?_, ?_, ?_, ?_, ?_, ?_, ?_, ?_, ?_, ?_, ?_, ?_, ?_, ?_, ?_, ?_, ?_, ?_, trivial⟩
                · intro a w' K hs' hdep hfr hK
                  have f2 := hfr 2 (by decide)
                  exact plan_do (by rfl) (plan_yield (i := 0) (V := fun _ _ v => v = (.pointer (some ⟨w.heap.size, 2, none⟩) : Value)) (.pointer (some ⟨w.heap.size, 2, none⟩)) (by go_simp) rfl hK)
                · intro a w' K hs' hdep hfr hK
                  have e35 : a.tmps[35]?.getD undef = (.pointer (some ⟨w.heap.size, 2, none⟩)) := hdep 0 (by decide) 35 rfl
                  have cl := (HB1.out.keep (HS.out.trans hs' (fun _ _ e => e)) (fun e => e)).cell (i := 2) rfl
                  exact plan_do (by rfl) (plan_yield (i := 1) (V := fun _ _ v => v = (.slice (some ⟨g, off, none⟩) n kc : Value)) (.slice (some ⟨g, off, none⟩) n kc) (by go_simp) rfl hK)
                · intro a w' K hs' hdep hfr hK
                  have f5 := hfr 5 (by decide)
                  exact plan_do (by rfl) (plan_yield (i := 2) (V := fun _ _ v => v = (.int .i64 (j : Int) : Value)) (.int .i64 (j : Int)) (by go_simp) rfl hK)
                · intro a w' K hs' hdep hfr hK
                  have e36 : a.tmps[36]?.getD undef = (.slice (some ⟨g, off, none⟩) n kc) := hdep 1 (by decide) 36 rfl
                  have e37 : a.tmps[37]?.getD undef = (.int .i64 (j : Int)) := hdep 2 (by decide) 37 rfl
                  have hin : (j : Int) < (n : Int) := by omega
                  exact plan_do (by rfl) (plan_yield (i := 3) (V := fun _ _ v => v = (.pointer (some ⟨g, off + j * 33, none⟩) : Value)) (.pointer (some ⟨g, off + j * 33, none⟩)) (by go_simp) rfl hK)
                · intro a w' K hs' hdep hfr hK
                  have e38 : a.tmps[38]?.getD undef = (.pointer (some ⟨g, off + j * 33, none⟩)) := hdep 3 (by decide) 38 rfl
                  exact plan_do (by rfl) (plan_yield (i := 4) (V := fun _ _ v => v = (.pointer (some ⟨g, off + j * 33, none⟩) : Value)) (.pointer (some ⟨g, off + j * 33, none⟩)) (by go_simp) rfl hK)
                · intro a w' K hs' hdep hfr hK
                  have e39 : a.tmps[39]?.getD undef = (.pointer (some ⟨g, off + j * 33, none⟩)) := hdep 4 (by decide) 39 rfl
                  have ca := HA.out _ (HS.out.trans hs' (fun _ _ e => e))
                  have cl := ca.1
                  exact plan_do (by rfl) (plan_yield (i := 5) (V := fun _ _ v => v = (fv1 : Value)) (fv1) (by go_simp) rfl hK)
                · intro a w' K hs' hdep hfr hK
                  have e40 : a.tmps[40]?.getD undef = (fv1) := hdep 5 (by decide) 40 rfl
                  have ca := HA.out _ (HS.out.trans hs' (fun _ _ e => e))
                  have cl := ca.2.1
                  exact plan_do (by rfl) (plan_yield (i := 6) (V := fun _ _ v => v = (.string ⟨k1.toArray⟩ : Value)) (.string ⟨k1.toArray⟩) (by go_simp) rfl hK)
                · intro a w' K hs' hdep hfr hK
                  have f3 := hfr 3 (by decide)
                  exact plan_do (by rfl) (plan_yield (i := 7) (V := fun _ _ v => v = (.pointer (some ⟨w.heap.size + 1, 2, none⟩) : Value)) (.pointer (some ⟨w.heap.size + 1, 2, none⟩)) (by go_simp) rfl hK)
                · intro a w' K hs' hdep hfr hK
                  have e42 : a.tmps[42]?.getD undef = (.pointer (some ⟨w.heap.size + 1, 2, none⟩)) := hdep 7 (by decide) 42 rfl
                  have cl := (HB2.out.keep (HS.out.trans hs' (fun _ _ e => e)) (fun e => e)).cell (i := 2) rfl
                  exact plan_do (by rfl) (plan_yield (i := 8) (V := fun _ _ v => v = (.slice (some ⟨g2, off2, none⟩) n kc2 : Value)) (.slice (some ⟨g2, off2, none⟩) n kc2) (by go_simp) rfl hK)
                · intro a w' K hs' hdep hfr hK
                  have f5 := hfr 5 (by decide)
                  exact plan_do (by rfl) (plan_yield (i := 9) (V := fun _ _ v => v = (.int .i64 (j : Int) : Value)) (.int .i64 (j : Int)) (by go_simp) rfl hK)
                · intro a w' K hs' hdep hfr hK
                  have e43 : a.tmps[43]?.getD undef = (.slice (some ⟨g2, off2, none⟩) n kc2) := hdep 8 (by decide) 43 rfl
                  have e44 : a.tmps[44]?.getD undef = (.int .i64 (j : Int)) := hdep 9 (by decide) 44 rfl
                  have hin : (j : Int) < (n : Int) := by omega
                  exact plan_do (by rfl) (plan_yield (i := 10) (V := fun _ _ v => v = (.pointer (some ⟨g2, off2 + j * 33, none⟩) : Value)) (.pointer (some ⟨g2, off2 + j * 33, none⟩)) (by go_simp) rfl hK)
                · intro a w' K hs' hdep hfr hK
                  have e45 : a.tmps[45]?.getD undef = (.pointer (some ⟨g2, off2 + j * 33, none⟩)) := hdep 10 (by decide) 45 rfl
                  exact plan_do (by rfl) (plan_yield (i := 11) (V := fun _ _ v => v = (.pointer (some ⟨g2, off2 + j * 33, none⟩) : Value)) (.pointer (some ⟨g2, off2 + j * 33, none⟩)) (by go_simp) rfl hK)
                · intro a w' K hs' hdep hfr hK
                  have e46 : a.tmps[46]?.getD undef = (.pointer (some ⟨g2, off2 + j * 33, none⟩)) := hdep 11 (by decide) 46 rfl
                  have cb := HB.out _ (HS.out.trans hs' (fun _ _ e => e))
                  have cl := cb.1
                  exact plan_do (by rfl) (plan_yield (i := 12) (V := fun _ _ v => v = (fv2 : Value)) (fv2) (by go_simp) rfl hK)
                · intro a w' K hs' hdep hfr hK
                  have e47 : a.tmps[47]?.getD undef = (fv2) := hdep 12 (by decide) 47 rfl
                  have cb := HB.out _ (HS.out.trans hs' (fun _ _ e => e))
                  have cl := cb.2.1
                  exact plan_do (by rfl) (plan_yield (i := 13) (V := fun _ _ v => v = (.string ⟨k1.toArray⟩ : Value)) (.string ⟨k1.toArray⟩) (by go_simp) rfl hK)
                · intro a w' K hs' hdep hfr hK
                  have e41 : a.tmps[41]?.getD undef = (.string ⟨k1.toArray⟩) := hdep 6 (by decide) 41 rfl
                  have e48 : a.tmps[48]?.getD undef = (.string ⟨k1.toArray⟩) := hdep 13 (by decide) 48 rfl
                  have z1 := str_list k1
                  have z2 := str_list k1
                  exact plan_do (by rfl) (plan_yield (i := 14) (V := fun _ _ v => v = (.bool false : Value)) (.bool false) (by go_simp) rfl hK)
                · intro a w' K hs' hdep hfr hK
                  have e49 : a.tmps[49]?.getD undef = (.bool false) := hdep 14 (by decide) 49 rfl
                  exact plan_do (by rfl) (plan_yield (i := 15) (V := fun _ _ v => v = (.bool false : Value)) (.bool false) (by go_simp) rfl hK)
                · intro a w' K hs' hdep hfr hK
                  have e50 : a.tmps[50]?.getD undef = (.bool false) := hdep 15 (by decide) 50 rfl
                  have f2 := hfr 2 (by decide)
                  exact plan_do (wanted_of 15 50 false rfl rfl e50) (plan_yield (i := 16) (V := fun _ _ v => v = (.pointer (some ⟨w.heap.size, 2, none⟩) : Value)) (.pointer (some ⟨w.heap.size, 2, none⟩)) (by go_simp) rfl hK)
                · intro a w' K hs' hdep hfr hK
                  have e51 : a.tmps[51]?.getD undef = (.pointer (some ⟨w.heap.size, 2, none⟩)) := hdep 16 (by decide) 51 rfl
                  have e50 : a.tmps[50]?.getD undef = (.bool false) := hdep 15 (by decide) 50 rfl
                  have cl := (HB1.out.keep (HS.out.trans hs' (fun _ _ e => e)) (fun e => e)).cell (i := 2) rfl
                  exact plan_do (wanted_of 15 50 false rfl rfl e50) (plan_yield (i := 17) (V := fun _ _ v => v = (.slice (some ⟨g, off, none⟩) n kc : Value)) (.slice (some ⟨g, off, none⟩) n kc) (by go_simp) rfl hK)
                · intro a w' K hs' hdep hfr hK
                  have e50 : a.tmps[50]?.getD undef = (.bool false) := hdep 15 (by decide) 50 rfl
                  have f5 := hfr 5 (by decide)
                  exact plan_do (wanted_of 15 50 false rfl rfl e50) (plan_yield (i := 18) (V := fun _ _ v => v = (.int .i64 (j : Int) : Value)) (.int .i64 (j : Int)) (by go_simp) rfl hK)
                · intro a w' K hs' hdep hfr hK
                  have e52 : a.tmps[52]?.getD undef = (.slice (some ⟨g, off, none⟩) n kc) := hdep 17 (by decide) 52 rfl
                  have e53 : a.tmps[53]?.getD undef = (.int .i64 (j : Int)) := hdep 18 (by decide) 53 rfl
                  have e50 : a.tmps[50]?.getD undef = (.bool false) := hdep 15 (by decide) 50 rfl
                  have hin : (j : Int) < (n : Int) := by omega
                  exact plan_do (wanted_of 15 50 false rfl rfl e50) (plan_yield (i := 19) (V := fun _ _ v => v = (.pointer (some ⟨g, off + j * 33, none⟩) : Value)) (.pointer (some ⟨g, off + j * 33, none⟩)) (by go_simp) rfl hK)
                · intro a w' K hs' hdep hfr hK
                  have e54 : a.tmps[54]?.getD undef = (.pointer (some ⟨g, off + j * 33, none⟩)) := hdep 19 (by decide) 54 rfl
                  have e50 : a.tmps[50]?.getD undef = (.bool false) := hdep 15 (by decide) 50 rfl
                  exact plan_do (wanted_of 15 50 false rfl rfl e50) (plan_yield (i := 20) (V := fun _ _ v => v = (.pointer (some ⟨g, off + j * 33 + 1, none⟩) : Value)) (.pointer (some ⟨g, off + j * 33 + 1, none⟩)) (by go_simp) rfl hK)
                · intro a w' K hs' hdep hfr hK
                  have e55 : a.tmps[55]?.getD undef = (.pointer (some ⟨g, off + j * 33 + 1, none⟩)) := hdep 20 (by decide) 55 rfl
                  have e50 : a.tmps[50]?.getD undef = (.bool false) := hdep 15 (by decide) 50 rfl
                  exact plan_do (wanted_of 15 50 false rfl rfl e50) (wp_load_mid (P := Try.prog) 44 (.tmp 55) rfl g (off + j * 33 + 1) ((eval_tmp _ _).trans e55) (u8s h1) _ (HA.out _ (HS.out.trans hs' (fun _ _ e => e))).2.2 Try.underlying44 rfl (HZ.out.trans (congrArg some (by rw [u8s_length, HH1.out]))) (hK _ _ (Keeps.refl _ _) rfl))
                · intro a w' K hs' hdep hfr hK
                  have e50 : a.tmps[50]?.getD undef = (.bool false) := hdep 15 (by decide) 50 rfl
                  have f3 := hfr 3 (by decide)
                  exact plan_do (wanted_of 15 50 false rfl rfl e50) (plan_yield (i := 22) (V := fun _ _ v => v = (.pointer (some ⟨w.heap.size + 1, 2, none⟩) : Value)) (.pointer (some ⟨w.heap.size + 1, 2, none⟩)) (by go_simp) rfl hK)
                · intro a w' K hs' hdep hfr hK
                  have e57 : a.tmps[57]?.getD undef = (.pointer (some ⟨w.heap.size + 1, 2, none⟩)) := hdep 22 (by decide) 57 rfl
                  have e50 : a.tmps[50]?.getD undef = (.bool false) := hdep 15 (by decide) 50 rfl
                  have cl := (HB2.out.keep (HS.out.trans hs' (fun _ _ e => e)) (fun e => e)).cell (i := 2) rfl
                  exact plan_do (wanted_of 15 50 false rfl rfl e50) (plan_yield (i := 23) (V := fun _ _ v => v = (.slice (some ⟨g2, off2, none⟩) n kc2 : Value)) (.slice (some ⟨g2, off2, none⟩) n kc2) (by go_simp) rfl hK)
                · intro a w' K hs' hdep hfr hK
                  have e50 : a.tmps[50]?.getD undef = (.bool false) := hdep 15 (by decide) 50 rfl
                  have f5 := hfr 5 (by decide)
                  exact plan_do (wanted_of 15 50 false rfl rfl e50) (plan_yield (i := 24) (V := fun _ _ v => v = (.int .i64 (j : Int) : Value)) (.int .i64 (j : Int)) (by go_simp) rfl hK)
                · intro a w' K hs' hdep hfr hK
                  have e58 : a.tmps[58]?.getD undef = (.slice (some ⟨g2, off2, none⟩) n kc2) := hdep 23 (by decide) 58 rfl
                  have e59 : a.tmps[59]?.getD undef = (.int .i64 (j : Int)) := hdep 24 (by decide) 59 rfl
                  have e50 : a.tmps[50]?.getD undef = (.bool false) := hdep 15 (by decide) 50 rfl
                  have hin : (j : Int) < (n : Int) := by omega
                  exact plan_do (wanted_of 15 50 false rfl rfl e50) (plan_yield (i := 25) (V := fun _ _ v => v = (.pointer (some ⟨g2, off2 + j * 33, none⟩) : Value)) (.pointer (some ⟨g2, off2 + j * 33, none⟩)) (by go_simp) rfl hK)
                · intro a w' K hs' hdep hfr hK
                  have e60 : a.tmps[60]?.getD undef = (.pointer (some ⟨g2, off2 + j * 33, none⟩)) := hdep 25 (by decide) 60 rfl
                  have e50 : a.tmps[50]?.getD undef = (.bool false) := hdep 15 (by decide) 50 rfl
                  exact plan_do (wanted_of 15 50 false rfl rfl e50) (plan_yield (i := 26) (V := fun _ _ v => v = (.pointer (some ⟨g2, off2 + j * 33 + 1, none⟩) : Value)) (.pointer (some ⟨g2, off2 + j * 33 + 1, none⟩)) (by go_simp) rfl hK)
                · intro a w' K hs' hdep hfr hK
                  have e61 : a.tmps[61]?.getD undef = (.pointer (some ⟨g2, off2 + j * 33 + 1, none⟩)) := hdep 26 (by decide) 61 rfl
                  have e50 : a.tmps[50]?.getD undef = (.bool false) := hdep 15 (by decide) 50 rfl
                  exact plan_do (wanted_of 15 50 false rfl rfl e50) (wp_load_mid (P := Try.prog) 44 (.tmp 61) rfl g2 (off2 + j * 33 + 1) ((eval_tmp _ _).trans e61) (u8s h2) _ (HB.out _ (HS.out.trans hs' (fun _ _ e => e))).2.2 Try.underlying44 rfl (HZ.out.trans (congrArg some (by rw [u8s_length, HH2.out]))) (hK _ _ (Keeps.refl _ _) rfl))
                · intro a w' K hs' hdep hfr hK
                  have e56 : a.tmps[56]?.getD undef = (.agg (u8s h1).toArray) := hdep 21 (by decide) 56 rfl
                  have e62 : a.tmps[62]?.getD undef = (.agg (u8s h2).toArray) := hdep 27 (by decide) 62 rfl
                  have e50 : a.tmps[50]?.getD undef = (.bool false) := hdep 15 (by decide) 50 rfl
                  refine plan_do (wanted_of 15 50 false rfl rfl e50) (plan_go (.bool true) w' (Eq.trans (exec_neq_is (.tmp 56) (.tmp 62) 44 44 (by rfl) (u8s h1).toArray (u8s h2).toArray (decide (h1 = h2)) ((eval_tmp _ _).trans e56) ((eval_tmp _ _).trans e62) Try.hashGuardH (hash_equal h1 h2 HH1.out HH2.out)) ?_) (hK _ _ (Keeps.refl _ _) rfl))
                  simp [HD.out]
                · intro a w' K hs' hdep hfr hK
                  have e50 : a.tmps[50]?.getD undef = (.bool false) := hdep 15 (by decide) 50 rfl
                  have e63 : a.tmps[63]?.getD undef = (.bool true) := hdep 28 (by decide) 63 rfl
                  exact plan_do (by rfl) (plan_yield (i := 29) (V := fun _ _ v => v = (.bool true : Value)) (.bool true) (by go_simp) rfl hK)
              intro a wz hkz hdef hsz hv hfr
              have e64 : a.tmps[64]?.getD undef = (.bool true) := hv 29 64 rfl
              have he := act_eq a _ [some 35, some 36, some 37, some 38, some 39, some 40, some 41, some 42, some 43, some 44, some 45, some 46, some 47, some 48, some 49, some 50, some 51, some 52, some 53, some 54, some 55, some 56, some 57, some 58, some 59, some 60, some 61, some 62, some 63, some 64] 65 rfl hsz hdef hfr (fun d => a.tmps[d]?.getD undef) (fun _ _ => rfl)
              obtain ⟨v35, h35⟩ : ∃ v, a.tmps[35]?.getD undef = v := ⟨_, rfl⟩
              obtain ⟨v36, h36⟩ : ∃ v, a.tmps[36]?.getD undef = v := ⟨_, rfl⟩
              obtain ⟨v37, h37⟩ : ∃ v, a.tmps[37]?.getD undef = v := ⟨_, rfl⟩
              obtain ⟨v38, h38⟩ : ∃ v, a.tmps[38]?.getD undef = v := ⟨_, rfl⟩
              obtain ⟨v39, h39⟩ : ∃ v, a.tmps[39]?.getD undef = v := ⟨_, rfl⟩
              obtain ⟨v40, h40⟩ : ∃ v, a.tmps[40]?.getD undef = v := ⟨_, rfl⟩
              obtain ⟨v41, h41⟩ : ∃ v, a.tmps[41]?.getD undef = v := ⟨_, rfl⟩
              obtain ⟨v42, h42⟩ : ∃ v, a.tmps[42]?.getD undef = v := ⟨_, rfl⟩
              obtain ⟨v43, h43⟩ : ∃ v, a.tmps[43]?.getD undef = v := ⟨_, rfl⟩
              obtain ⟨v44, h44⟩ : ∃ v, a.tmps[44]?.getD undef = v := ⟨_, rfl⟩
              obtain ⟨v45, h45⟩ : ∃ v, a.tmps[45]?.getD undef = v := ⟨_, rfl⟩
              obtain ⟨v46, h46⟩ : ∃ v, a.tmps[46]?.getD undef = v := ⟨_, rfl⟩
              obtain ⟨v47, h47⟩ : ∃ v, a.tmps[47]?.getD undef = v := ⟨_, rfl⟩
              obtain ⟨v48, h48⟩ : ∃ v, a.tmps[48]?.getD undef = v := ⟨_, rfl⟩
              obtain ⟨v49, h49⟩ : ∃ v, a.tmps[49]?.getD undef = v := ⟨_, rfl⟩
              obtain ⟨v50, h50⟩ : ∃ v, a.tmps[50]?.getD undef = v := ⟨_, rfl⟩
              obtain ⟨v51, h51⟩ : ∃ v, a.tmps[51]?.getD undef = v := ⟨_, rfl⟩
              obtain ⟨v52, h52⟩ : ∃ v, a.tmps[52]?.getD undef = v := ⟨_, rfl⟩
              obtain ⟨v53, h53⟩ : ∃ v, a.tmps[53]?.getD undef = v := ⟨_, rfl⟩
              obtain ⟨v54, h54⟩ : ∃ v, a.tmps[54]?.getD undef = v := ⟨_, rfl⟩
              obtain ⟨v55, h55⟩ : ∃ v, a.tmps[55]?.getD undef = v := ⟨_, rfl⟩
              obtain ⟨v56, h56⟩ : ∃ v, a.tmps[56]?.getD undef = v := ⟨_, rfl⟩
              obtain ⟨v57, h57⟩ : ∃ v, a.tmps[57]?.getD undef = v := ⟨_, rfl⟩
              obtain ⟨v58, h58⟩ : ∃ v, a.tmps[58]?.getD undef = v := ⟨_, rfl⟩
              obtain ⟨v59, h59⟩ : ∃ v, a.tmps[59]?.getD undef = v := ⟨_, rfl⟩
              obtain ⟨v60, h60⟩ : ∃ v, a.tmps[60]?.getD undef = v := ⟨_, rfl⟩
              obtain ⟨v61, h61⟩ : ∃ v, a.tmps[61]?.getD undef = v := ⟨_, rfl⟩
              obtain ⟨v62, h62⟩ : ∃ v, a.tmps[62]?.getD undef = v := ⟨_, rfl⟩
              obtain ⟨v63, h63⟩ : ∃ v, a.tmps[63]?.getD undef = v := ⟨_, rfl⟩
              simp only [putAll, e64, h35, h36, h37, h38, h39, h40, h41, h42, h43, h44, h45, h46, h47, h48, h49, h50, h51, h52, h53, h54, h55, h56, h57, h58, h59, h60, h61, h62, h63, List.setIfInBounds_toArray, List.set_cons_zero, List.set_cons_succ] at he
              clear e64 h35 h36 h37 h38 h39 h40 h41 h42 h43 h44 h45 h46 h47 h48 h49 h50 h51 h52 h53 h54 h55 h56 h57 h58 h59 h60 h61 h62 h63 hdef hsz hv hfr
              subst he
              have HKZ := Lib.hid hkz
              clear hkz
              go_wp2
              go_ret
              exact BoolPost.no (HS3.out.trans (HS.out.trans HKZ.out (fun _ _ e => e)) (fun _ _ e => e)) (fun e => ne_at HG.out.1 HG.out.2 (fun e => HD.out (Prod.mk.inj e).2) e.2.2)
          · have HD := Lib.hid hd
            clear hd
            go_wp2
            clear c1
            refine wp_region_do [[], [0], [], [1, 2], [3], [4], [5], [], [7], [], [8, 9], [10], [11], [12], [6, 13], [14], [15], [16, 15], [15], [17, 18, 15], [19, 15], [20, 15], [15], [22, 15], [15], [23, 24, 15], [25, 15], [26, 15], [21, 27, 15], [15, 28]]
              [some 35, some 36, some 37, some 38, some 39, some 40, some 41, some 42, some 43, some 44, some 45, some 46, some 47, some 48, some 49, some 50, some 51, some 52, some 53, some 54, some 55, some 56, some 57, some 58, some 59, some 60, some 61, some 62, some 63, some 64]
              [.is (.pointer (some ⟨w.heap.size, 2, none⟩)), .is (.slice (some ⟨g, off, none⟩) n kc), .is (.int .i64 (j : Int)), .is (.pointer (some ⟨g, off + j * 33, none⟩)), .is (.pointer (some ⟨g, off + j * 33, none⟩)), .is (fv1), .is (.string ⟨k1.toArray⟩), .is (.pointer (some ⟨w.heap.size + 1, 2, none⟩)), .is (.slice (some ⟨g2, off2, none⟩) n kc2), .is (.int .i64 (j : Int)), .is (.pointer (some ⟨g2, off2 + j * 33, none⟩)), .is (.pointer (some ⟨g2, off2 + j * 33, none⟩)), .is (fv2), .is (.string ⟨k2.toArray⟩), .is (.bool true), .is (.bool true), .any, .any, .any, .any, .any, .any, .any, .any, .any, .any, .any, .any, .any, .is (.bool true)]
              6 _ _ 65 30 (by kernel_rfl) (by rfl) (by rfl) (by kernel_rfl) (by kernel_rfl) (by decide) ?_ ?_
            · refine ⟨?_, ?_, ?_, ?_, ?_, ?_, ?_, ?_, ?_, ?_, ?_, ?_, ?_, ?_, ?_, ?_, ?_, ?_, ?_, ?_, ?_, ?_, ?_, ?_, ?_, ?_, ?_, ?_, ?_, ?_, trivial⟩
              · intro a w' K hs' hdep hfr hK
                have f2 := hfr 2 (by decide)
                exact plan_do (by rfl) (plan_yield (i := 0) (V := fun _ _ v => v = (.pointer (some ⟨w.heap.size, 2, none⟩) : Value)) (.pointer (some ⟨w.heap.size, 2, none⟩)) (by go_simp) rfl hK)
              · intro a w' K hs' hdep hfr hK
                have e35 : a.tmps[35]?.getD undef = (.pointer (some ⟨w.heap.size, 2, none⟩)) := hdep 0 (by decide) 35 rfl
                have cl := (HB1.out.keep (HS.out.trans hs' (fun _ _ e => e)) (fun e => e)).cell (i := 2) rfl
                exact plan_do (by rfl) (plan_yield (i := 1) (V := fun _ _ v => v = (.slice (some ⟨g, off, none⟩) n kc : Value)) (.slice (some ⟨g, off, none⟩) n kc) (by go_simp) rfl hK)
              · intro a w' K hs' hdep hfr hK
                have f5 := hfr 5 (by decide)
                exact plan_do (by rfl) (plan_yield (i := 2) (V := fun _ _ v => v = (.int .i64 (j : Int) : Value)) (.int .i64 (j : Int)) (by go_simp) rfl hK)
              · intro a w' K hs' hdep hfr hK
                have e36 : a.tmps[36]?.getD undef = (.slice (some ⟨g, off, none⟩) n kc) := hdep 1 (by decide) 36 rfl
                have e37 : a.tmps[37]?.getD undef = (.int .i64 (j : Int)) := hdep 2 (by decide) 37 rfl
                have hin : (j : Int) < (n : Int) := by omega
                exact plan_do (by rfl) (plan_yield (i := 3) (V := fun _ _ v => v = (.pointer (some ⟨g, off + j * 33, none⟩) : Value)) (.pointer (some ⟨g, off + j * 33, none⟩)) (by go_simp) rfl hK)
              · intro a w' K hs' hdep hfr hK
                have e38 : a.tmps[38]?.getD undef = (.pointer (some ⟨g, off + j * 33, none⟩)) := hdep 3 (by decide) 38 rfl
                exact plan_do (by rfl) (plan_yield (i := 4) (V := fun _ _ v => v = (.pointer (some ⟨g, off + j * 33, none⟩) : Value)) (.pointer (some ⟨g, off + j * 33, none⟩)) (by go_simp) rfl hK)
              · intro a w' K hs' hdep hfr hK
                have e39 : a.tmps[39]?.getD undef = (.pointer (some ⟨g, off + j * 33, none⟩)) := hdep 4 (by decide) 39 rfl
                have ca := HA.out _ (HS.out.trans hs' (fun _ _ e => e))
                have cl := ca.1
                exact plan_do (by rfl) (plan_yield (i := 5) (V := fun _ _ v => v = (fv1 : Value)) (fv1) (by go_simp) rfl hK)
              · intro a w' K hs' hdep hfr hK
                have e40 : a.tmps[40]?.getD undef = (fv1) := hdep 5 (by decide) 40 rfl
                have ca := HA.out _ (HS.out.trans hs' (fun _ _ e => e))
                have cl := ca.2.1
                exact plan_do (by rfl) (plan_yield (i := 6) (V := fun _ _ v => v = (.string ⟨k1.toArray⟩ : Value)) (.string ⟨k1.toArray⟩) (by go_simp) rfl hK)
              · intro a w' K hs' hdep hfr hK
                have f3 := hfr 3 (by decide)
                exact plan_do (by rfl) (plan_yield (i := 7) (V := fun _ _ v => v = (.pointer (some ⟨w.heap.size + 1, 2, none⟩) : Value)) (.pointer (some ⟨w.heap.size + 1, 2, none⟩)) (by go_simp) rfl hK)
              · intro a w' K hs' hdep hfr hK
                have e42 : a.tmps[42]?.getD undef = (.pointer (some ⟨w.heap.size + 1, 2, none⟩)) := hdep 7 (by decide) 42 rfl
                have cl := (HB2.out.keep (HS.out.trans hs' (fun _ _ e => e)) (fun e => e)).cell (i := 2) rfl
                exact plan_do (by rfl) (plan_yield (i := 8) (V := fun _ _ v => v = (.slice (some ⟨g2, off2, none⟩) n kc2 : Value)) (.slice (some ⟨g2, off2, none⟩) n kc2) (by go_simp) rfl hK)
              · intro a w' K hs' hdep hfr hK
                have f5 := hfr 5 (by decide)
                exact plan_do (by rfl) (plan_yield (i := 9) (V := fun _ _ v => v = (.int .i64 (j : Int) : Value)) (.int .i64 (j : Int)) (by go_simp) rfl hK)
              · intro a w' K hs' hdep hfr hK
                have e43 : a.tmps[43]?.getD undef = (.slice (some ⟨g2, off2, none⟩) n kc2) := hdep 8 (by decide) 43 rfl
                have e44 : a.tmps[44]?.getD undef = (.int .i64 (j : Int)) := hdep 9 (by decide) 44 rfl
                have hin : (j : Int) < (n : Int) := by omega
                exact plan_do (by rfl) (plan_yield (i := 10) (V := fun _ _ v => v = (.pointer (some ⟨g2, off2 + j * 33, none⟩) : Value)) (.pointer (some ⟨g2, off2 + j * 33, none⟩)) (by go_simp) rfl hK)
              · intro a w' K hs' hdep hfr hK
                have e45 : a.tmps[45]?.getD undef = (.pointer (some ⟨g2, off2 + j * 33, none⟩)) := hdep 10 (by decide) 45 rfl
                exact plan_do (by rfl) (plan_yield (i := 11) (V := fun _ _ v => v = (.pointer (some ⟨g2, off2 + j * 33, none⟩) : Value)) (.pointer (some ⟨g2, off2 + j * 33, none⟩)) (by go_simp) rfl hK)
              · intro a w' K hs' hdep hfr hK
                have e46 : a.tmps[46]?.getD undef = (.pointer (some ⟨g2, off2 + j * 33, none⟩)) := hdep 11 (by decide) 46 rfl
                have cb := HB.out _ (HS.out.trans hs' (fun _ _ e => e))
                have cl := cb.1
                exact plan_do (by rfl) (plan_yield (i := 12) (V := fun _ _ v => v = (fv2 : Value)) (fv2) (by go_simp) rfl hK)
              · intro a w' K hs' hdep hfr hK
                have e47 : a.tmps[47]?.getD undef = (fv2) := hdep 12 (by decide) 47 rfl
                have cb := HB.out _ (HS.out.trans hs' (fun _ _ e => e))
                have cl := cb.2.1
                exact plan_do (by rfl) (plan_yield (i := 13) (V := fun _ _ v => v = (.string ⟨k2.toArray⟩ : Value)) (.string ⟨k2.toArray⟩) (by go_simp) rfl hK)
              · intro a w' K hs' hdep hfr hK
                have e41 : a.tmps[41]?.getD undef = (.string ⟨k1.toArray⟩) := hdep 6 (by decide) 41 rfl
                have e48 : a.tmps[48]?.getD undef = (.string ⟨k2.toArray⟩) := hdep 13 (by decide) 48 rfl
                have z1 := str_list k1
                have z2 := str_list k2
                have z3 := HD.out
                have z4 : (k1 == k2) = false := by simpa using z3
                exact plan_do (by rfl) (plan_yield (i := 14) (V := fun _ _ v => v = (.bool true : Value)) (.bool true) (by go_simp) rfl hK)
              · intro a w' K hs' hdep hfr hK
                have e49 : a.tmps[49]?.getD undef = (.bool true) := hdep 14 (by decide) 49 rfl
                exact plan_do (by rfl) (plan_yield (i := 15) (V := fun _ _ v => v = (.bool true : Value)) (.bool true) (by go_simp) rfl hK)
              · intro a w' K hs' hdep hfr hK
                have e50 : a.tmps[50]?.getD undef = (.bool true) := hdep 15 (by decide) 50 rfl
                have f2 := hfr 2 (by decide)
                exact plan_skip (unwanted_by 15 50 false rfl rfl e50) (hK _ _ (Keeps.refl _ _) trivial)
              · intro a w' K hs' hdep hfr hK
                have e50 : a.tmps[50]?.getD undef = (.bool true) := hdep 15 (by decide) 50 rfl
                have cl := (HB1.out.keep (HS.out.trans hs' (fun _ _ e => e)) (fun e => e)).cell (i := 2) rfl
                exact plan_skip (unwanted_by 15 50 false rfl rfl e50) (hK _ _ (Keeps.refl _ _) trivial)
              · intro a w' K hs' hdep hfr hK
                have e50 : a.tmps[50]?.getD undef = (.bool true) := hdep 15 (by decide) 50 rfl
                have f5 := hfr 5 (by decide)
                exact plan_skip (unwanted_by 15 50 false rfl rfl e50) (hK _ _ (Keeps.refl _ _) trivial)
              · intro a w' K hs' hdep hfr hK
                have e50 : a.tmps[50]?.getD undef = (.bool true) := hdep 15 (by decide) 50 rfl
                have hin : (j : Int) < (n : Int) := by omega
                exact plan_skip (unwanted_by 15 50 false rfl rfl e50) (hK _ _ (Keeps.refl _ _) trivial)
              · intro a w' K hs' hdep hfr hK
                have e50 : a.tmps[50]?.getD undef = (.bool true) := hdep 15 (by decide) 50 rfl
                exact plan_skip (unwanted_by 15 50 false rfl rfl e50) (hK _ _ (Keeps.refl _ _) trivial)
              · intro a w' K hs' hdep hfr hK
                have e50 : a.tmps[50]?.getD undef = (.bool true) := hdep 15 (by decide) 50 rfl
                exact plan_skip (unwanted_by 15 50 false rfl rfl e50) (hK _ _ (Keeps.refl _ _) trivial)
              · intro a w' K hs' hdep hfr hK
                have e50 : a.tmps[50]?.getD undef = (.bool true) := hdep 15 (by decide) 50 rfl
                have f3 := hfr 3 (by decide)
                exact plan_skip (unwanted_by 15 50 false rfl rfl e50) (hK _ _ (Keeps.refl _ _) trivial)
              · intro a w' K hs' hdep hfr hK
                have e50 : a.tmps[50]?.getD undef = (.bool true) := hdep 15 (by decide) 50 rfl
                have cl := (HB2.out.keep (HS.out.trans hs' (fun _ _ e => e)) (fun e => e)).cell (i := 2) rfl
                exact plan_skip (unwanted_by 15 50 false rfl rfl e50) (hK _ _ (Keeps.refl _ _) trivial)
              · intro a w' K hs' hdep hfr hK
                have e50 : a.tmps[50]?.getD undef = (.bool true) := hdep 15 (by decide) 50 rfl
                have f5 := hfr 5 (by decide)
                exact plan_skip (unwanted_by 15 50 false rfl rfl e50) (hK _ _ (Keeps.refl _ _) trivial)
              · intro a w' K hs' hdep hfr hK
                have e50 : a.tmps[50]?.getD undef = (.bool true) := hdep 15 (by decide) 50 rfl
                have hin : (j : Int) < (n : Int) := by omega
                exact plan_skip (unwanted_by 15 50 false rfl rfl e50) (hK _ _ (Keeps.refl _ _) trivial)
              · intro a w' K hs' hdep hfr hK
                have e50 : a.tmps[50]?.getD undef = (.bool true) := hdep 15 (by decide) 50 rfl
                exact plan_skip (unwanted_by 15 50 false rfl rfl e50) (hK _ _ (Keeps.refl _ _) trivial)
              · intro a w' K hs' hdep hfr hK
                have e50 : a.tmps[50]?.getD undef = (.bool true) := hdep 15 (by decide) 50 rfl
                exact plan_skip (unwanted_by 15 50 false rfl rfl e50) (hK _ _ (Keeps.refl _ _) trivial)
              · intro a w' K hs' hdep hfr hK
                have e50 : a.tmps[50]?.getD undef = (.bool true) := hdep 15 (by decide) 50 rfl
                exact plan_skip (unwanted_by 15 50 false rfl rfl e50) (hK _ _ (Keeps.refl _ _) trivial)
              · intro a w' K hs' hdep hfr hK
                have e50 : a.tmps[50]?.getD undef = (.bool true) := hdep 15 (by decide) 50 rfl
                exact plan_do (by rfl) (plan_yield (i := 29) (V := fun _ _ v => v = (.bool true : Value)) (.bool true) (by go_simp) rfl hK)
            intro a wz hkz hdef hsz hv hfr
            have e64 : a.tmps[64]?.getD undef = (.bool true) := hv 29 64 rfl
            have he := act_eq a _ [some 35, some 36, some 37, some 38, some 39, some 40, some 41, some 42, some 43, some 44, some 45, some 46, some 47, some 48, some 49, some 50, some 51, some 52, some 53, some 54, some 55, some 56, some 57, some 58, some 59, some 60, some 61, some 62, some 63, some 64] 65 rfl hsz hdef hfr (fun d => a.tmps[d]?.getD undef) (fun _ _ => rfl)
            obtain ⟨v35, h35⟩ : ∃ v, a.tmps[35]?.getD undef = v := ⟨_, rfl⟩
            obtain ⟨v36, h36⟩ : ∃ v, a.tmps[36]?.getD undef = v := ⟨_, rfl⟩
            obtain ⟨v37, h37⟩ : ∃ v, a.tmps[37]?.getD undef = v := ⟨_, rfl⟩
            obtain ⟨v38, h38⟩ : ∃ v, a.tmps[38]?.getD undef = v := ⟨_, rfl⟩
            obtain ⟨v39, h39⟩ : ∃ v, a.tmps[39]?.getD undef = v := ⟨_, rfl⟩
            obtain ⟨v40, h40⟩ : ∃ v, a.tmps[40]?.getD undef = v := ⟨_, rfl⟩
            obtain ⟨v41, h41⟩ : ∃ v, a.tmps[41]?.getD undef = v := ⟨_, rfl⟩
            obtain ⟨v42, h42⟩ : ∃ v, a.tmps[42]?.getD undef = v := ⟨_, rfl⟩
            obtain ⟨v43, h43⟩ : ∃ v, a.tmps[43]?.getD undef = v := ⟨_, rfl⟩
            obtain ⟨v44, h44⟩ : ∃ v, a.tmps[44]?.getD undef = v := ⟨_, rfl⟩
            obtain ⟨v45, h45⟩ : ∃ v, a.tmps[45]?.getD undef = v := ⟨_, rfl⟩
            obtain ⟨v46, h46⟩ : ∃ v, a.tmps[46]?.getD undef = v := ⟨_, rfl⟩
            obtain ⟨v47, h47⟩ : ∃ v, a.tmps[47]?.getD undef = v := ⟨_, rfl⟩
            obtain ⟨v48, h48⟩ : ∃ v, a.tmps[48]?.getD undef = v := ⟨_, rfl⟩
            obtain ⟨v49, h49⟩ : ∃ v, a.tmps[49]?.getD undef = v := ⟨_, rfl⟩
            obtain ⟨v50, h50⟩ : ∃ v, a.tmps[50]?.getD undef = v := ⟨_, rfl⟩
            obtain ⟨v51, h51⟩ : ∃ v, a.tmps[51]?.getD undef = v := ⟨_, rfl⟩
            obtain ⟨v52, h52⟩ : ∃ v, a.tmps[52]?.getD undef = v := ⟨_, rfl⟩
            obtain ⟨v53, h53⟩ : ∃ v, a.tmps[53]?.getD undef = v := ⟨_, rfl⟩
            obtain ⟨v54, h54⟩ : ∃ v, a.tmps[54]?.getD undef = v := ⟨_, rfl⟩
            obtain ⟨v55, h55⟩ : ∃ v, a.tmps[55]?.getD undef = v := ⟨_, rfl⟩
            obtain ⟨v56, h56⟩ : ∃ v, a.tmps[56]?.getD undef = v := ⟨_, rfl⟩
            obtain ⟨v57, h57⟩ : ∃ v, a.tmps[57]?.getD undef = v := ⟨_, rfl⟩
            obtain ⟨v58, h58⟩ : ∃ v, a.tmps[58]?.getD undef = v := ⟨_, rfl⟩
            obtain ⟨v59, h59⟩ : ∃ v, a.tmps[59]?.getD undef = v := ⟨_, rfl⟩
            obtain ⟨v60, h60⟩ : ∃ v, a.tmps[60]?.getD undef = v := ⟨_, rfl⟩
            obtain ⟨v61, h61⟩ : ∃ v, a.tmps[61]?.getD undef = v := ⟨_, rfl⟩
            obtain ⟨v62, h62⟩ : ∃ v, a.tmps[62]?.getD undef = v := ⟨_, rfl⟩
            obtain ⟨v63, h63⟩ : ∃ v, a.tmps[63]?.getD undef = v := ⟨_, rfl⟩
            simp only [putAll, e64, h35, h36, h37, h38, h39, h40, h41, h42, h43, h44, h45, h46, h47, h48, h49, h50, h51, h52, h53, h54, h55, h56, h57, h58, h59, h60, h61, h62, h63, List.setIfInBounds_toArray, List.set_cons_zero, List.set_cons_succ] at he
            clear e64 h35 h36 h37 h38 h39 h40 h41 h42 h43 h44 h45 h46 h47 h48 h49 h50 h51 h52 h53 h54 h55 h56 h57 h58 h59 h60 h61 h62 h63 hdef hsz hv hfr
            subst he
            have HKZ := Lib.hid hkz
            clear hkz
            go_wp2
            go_ret
            exact BoolPost.no (HS3.out.trans (HS.out.trans HKZ.out (fun _ _ e => e)) (fun _ _ e => e)) (fun e => ne_at HG.out.1 HG.out.2 (fun e => HD.out (Prod.mk.inj e).1) e.2.2)
        · obtain rfl : j = n := by omega
          go_wp2
          go_ret
          refine BoolPost.yes (HS3.out.trans HS.out (fun _ _ e => e)) ⟨rfl, HKV.out, ?_⟩
          have := HT.out
          rwa [List.take_of_length_le (by rw [kks_length, HKL.out.1]; exact Nat.le_refl _), List.take_of_length_le (by rw [kks_length, HKL.out.2]; exact Nat.le_refl _)] at this
    · have g2 : ((n : Int) == (n2 : Int)) = false := by simp; omega
      have HN := Lib.hid hn
      clear hn
      go_wp2
      go_ret
      refine BoolPost.no HS3.out (fun e => HN.out ?_)
      have h1 := congrArg List.length e.2.2
      rw [kks_length, kks_length, HKL.out.1, HKL.out.2] at h1
      exact h1
  · have g0 : (lv == lv2) = false := by simpa using hlv
    have HL := Lib.hid hlv
    clear hlv
    go_enter Try.func12, Try.ntmps12
    go_wp2
    rw [HW2.out]
    go_wp2
    go_ret
    exact BoolPost.no HS0.out (fun e => HL.out e.1)
end Go.Proofs.Ytdeajjppmgfemaa
