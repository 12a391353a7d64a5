/- The walk of NodeWrites. -/
import Derived.Test.YtdeajjppmgfemaaNd12
import Derived.Test.YtdeajjppmgfemaaNd15
namespace Go.Proofs.Ytdeajjppmgfemaa
open Go.RowKit
set_option linter.unusedVariables false

def WCase (lv : Int) (ps ks : List (List UInt8 × List UInt8)) (b : List UInt8) (er : Int) : Prop := (NRight lv ps ks ∧ (nodeB lv.toNat ps ks).length ≤ 470 ∧ b = nodeB lv.toNat ps ks ∧ er = 0) ∨ (NRight lv ps ks ∧ 470 < (nodeB lv.toNat ps ks).length ∧ b = [] ∧ er = 23) ∨ (¬ NRight lv ps ks ∧ b = [] ∧ er = 1)
theorem WCase.one {lv : Int} {ps ks : List (List UInt8 × List UInt8)} {b b2 : List UInt8} {er er2 : Int} (h : WCase lv ps ks b er) (h2 : WCase lv ps ks b2 er2) : b = b2 ∧ er = er2 := by
  rcases h with ⟨q1, q2, rfl, rfl⟩ | ⟨q1, q2, rfl, rfl⟩ | ⟨q1, rfl, rfl⟩ <;> rcases h2 with ⟨r1, r2, rfl, rfl⟩ | ⟨r1, r2, rfl, rfl⟩ | ⟨r1, rfl, rfl⟩
  · exact ⟨rfl, rfl⟩
  · omega
  · exact absurd q1 r1
  · omega
  · exact ⟨rfl, rfl⟩
  · exact absurd q1 r1
  · exact absurd r1 q1
  · exact absurd r1 q1
  · exact ⟨rfl, rfl⟩
theorem reads_str {w : World} {v : Value} {b : List UInt8} (h : Reads w v b) : (convert 29 9 v).run Try.prog w = .ok (.string ⟨b.toArray⟩) w := by
  obtain ⟨ao, c, rfl, hb, hs, _⟩ := h
  exact run_string' hb hs _ _ _ Try.underlying29 Try.underlying5 Try.underlying9

set_option maxRecDepth 100000 in
set_option maxHeartbeats 25600000 in
theorem writes_any (lv : Int) (po ko : Option Addr) (pc kc : Nat) (ps : List PairX) (ks : List KidX) (w : World) (h : NodeAt w po ko ps ks pc kc) (hm : pc ≤ 9223372036854775807) :
    Calls Try.prog 3 #[nodeV lv po ps.length pc ko ks.length kc] w fun e w' => e = .returned (.bool true) ∧ Same w w' := by
  have HA0 : Hid ((w.alloc (.cells #[.int .i64 lv, .slice po ps.length pc, .slice ko ks.length kc] 25)).heap[w.heap.size]? = some (.cells #[.int .i64 lv, .slice po ps.length pc, .slice ko ks.length kc] 25 (0, 0))) := Lib.hid (heap_alloc_new w _)
  have HS0 : Hid (Same w (w.alloc (.cells #[.int .i64 lv, .slice po ps.length pc, .slice ko ks.length kc] 25))) := Lib.hid ((Keeps.refl _ _).alloc _)
  have HN := Lib.hid h
  have hpm : ps.length ≤ 9223372036854775807 := by have := h.hp; omega
  clear h
  go_enter Try.func3, Try.ntmps3
  go_wp2_with fail
  ((with_reducible refine (speaks07 _).mono ?_); rintro e w3 ⟨rfl, hk3⟩)
  have HA1 := Lib.hid (hk3.obj HA0.out (fun e => e))
  have HS1 := Lib.hid (HS0.out.trans hk3 (fun _ _ e => e))
  clear hk3 HA0 HS0
  obtain ⟨a0, a1, a2⟩ := cell_of_three HA1.out
  go_wp2_with fail
  ((with_reducible refine (great07 lv po ko _ pc _ kc ps ks _ (HN.out.same HS1.out) rfl rfl hpm).mono ?_); rintro e w4 ⟨b, rfl, hk4, hg⟩)
  have HA2 := Lib.hid (hk4.obj HA1.out (fun e => e))
  have HS2 := Lib.hid (HS1.out.trans hk4 (fun _ _ e => e))
  have HG := Lib.hid hg
  clear hk4 hg HA1 HS1 a0 a1 a2
  obtain ⟨a0, a1, a2⟩ := cell_of_three HA2.out
  cases b with
  | true =>
    go_wp2
    go_ret
    exact ⟨rfl, HS2.out⟩
  | false =>
  have HGA : Hid (psum ps ≤ 8000 ∧ ks.length ≤ 300 ∧ ∀ k ∈ ks, k.fs.length ≤ 70000) := Lib.hid (HG.out (by trivial))
  have HPB : Hid (ps.length ≤ 8000 ∧ ks.length ≤ 300) := Lib.hid ⟨by have := psum_len ps; have := HGA.out.1; omega, HGA.out.2.1⟩
  clear HG
  go_wp2_with fail
  ((with_reducible refine (copyNode_any lv po ko _ pc _ kc ps ks _ (HN.out.same HS2.out) rfl rfl (by have := HGA.out.1; omega) (fun k hk => by have := HGA.out.2.2 k hk; omega) (by have := HPB.out; omega)).mono ?_); rintro e w5 ⟨hk5, po2, pc2, ko2, kc2, qs, ls, rfl, hql, hll, hat, hkv, hkk⟩)
  obtain ⟨w6, hw6⟩ : ∃ w6, w5.alloc (.cells #[.int .i64 lv, .slice po2 ps.length pc2, .slice ko2 ks.length kc2] 25) = w6 := ⟨_, rfl⟩
  have hk56 : Same w5 w6 := by rw [← hw6]; exact (Keeps.refl _ _).alloc _
  have HB6 : Hid (w6.heap[w5.heap.size]? = some (.cells #[.int .i64 lv, .slice po2 ps.length pc2, .slice ko2 ks.length kc2] 25 (0, 0))) := Lib.hid (by rw [← hw6]; exact heap_alloc_new w5 _)
  have HA6 := Lib.hid (hk56.obj (hk5.obj HA2.out (fun e => e)) (fun e => e))
  have HS6 := Lib.hid ((HS2.out.trans hk5 (fun _ _ e => e)).trans hk56 (fun _ _ e => e))
  have HAT6 := Lib.hid (hat.same hk56)
  have HKV := Lib.hid hkv
  have HKK := Lib.hid hkk
  have HQL := Lib.hid hql
  have HLL := Lib.hid hll
  obtain ⟨b0, b1, b2⟩ := cell_of_three HB6.out
  clear hk5 hk56 hat hkv hkk hql hll HA2 HS2 a0 a1 a2
  have HPS : Hid (psum qs ≤ 8000 ∧ ∀ k ∈ ls, k.fs.length ≤ 70000) := Lib.hid ⟨by rw [← flatP_len, HKV.out, flatP_len]; exact HGA.out.1, fun k hk => by
    have h1 : (k.fs, k.hs) ∈ kks ls := by simp only [kks, List.mem_map]; exact ⟨k, hk, rfl⟩
    rw [HKK.out] at h1
    simp only [kks, List.mem_map] at h1
    obtain ⟨k', hk', e⟩ := h1
    have := HGA.out.2.2 k' hk'
    have e2 : k'.fs = k.fs := (Prod.mk.inj e).1
    rw [← e2]; exact this⟩
  subst hw6
  go_wp2_with fail
  ((with_reducible refine (nodeWrite_any lv po2 ko2 _ pc2 _ kc2 qs ls _ HAT6.out HQL.out HLL.out (by have := HPS.out.1; omega) (fun k hk => by have := HPS.out.2 k hk; omega) (by have := HPB.out; omega)).mono ?_); rintro e w7 ⟨hk7, v1, X, er1, rfl, hrd1, hfr1, hcs1⟩)
  have HA7 := Lib.hid (hk7.obj HA6.out (fun e => e))
  have HB7 := Lib.hid (hk7.obj HB6.out (fun e => e))
  have HS7 := Lib.hid (HS6.out.trans hk7 (fun _ _ e => e))
  have HAT7 := Lib.hid (HAT6.out.same hk7)
  have HR1 := Lib.hid hrd1
  have HC1 : Hid (WCase lv (kvs ps) (kks ks) X er1) := Lib.hid (by rw [← HKV.out, ← HKK.out]; exact hcs1)
  clear hk7 hrd1 hfr1 hcs1 HA6 HB6 HS6 HAT6 b0 b1 b2
  obtain ⟨a0, a1, a2⟩ := cell_of_three HA7.out
  go_wp2_with fail
  ((with_reducible refine (refWrite_any lv po ko _ pc _ kc ps ks _ (HN.out.same HS7.out) rfl rfl (by have := HGA.out.1; omega) (fun k hk => by have := HGA.out.2.2 k hk; omega) (by have := HPB.out; omega)).mono ?_); rintro e w8 ⟨hk8, v2, Y, er2, rfl, hrd2, hfr2, hcs2⟩)
  obtain ⟨rfl, rfl⟩ := WCase.one HC1.out hcs2
  obtain ⟨a0, a1, a2⟩ := cell_of_three (hk8.obj HA7.out (fun e => e))
  obtain ⟨b0, b1, b2⟩ := cell_of_three (hk8.obj HB7.out (fun e => e))
  have HS8 := Lib.hid (HS7.out.trans hk8 (fun _ _ e => e))
  have k1 := reads_str (HR1.out.same hk8)
  have k2 := reads_str hrd2
  have HAT8 := Lib.hid (HAT7.out.same hk8)
  have HN8 := Lib.hid (HN.out.same HS8.out)
  clear hk8 hrd2 hfr2 hcs2 HA7 HB7 HS7 HAT7 HR1
  go_wp2_with fail
  ((with_reducible refine (sameNode_any lv lv po2 ko2 po ko _ pc2 _ kc2 _ pc _ kc qs ps ls ks _ HAT8.out HN8.out HQL.out HLL.out rfl rfl (by have := HPB.out; omega) (by have := HPB.out; omega)).mono ?_); rintro e w9 ⟨b, rfl, hk9, hb⟩)
  obtain rfl : b = true := hb.2 ⟨rfl, HKV.out, HKK.out⟩
  have HS9 := Lib.hid (HS8.out.trans hk9 (fun _ _ e => e))
  clear hk9 hb
  go_wp2
  go_ret
  exact ⟨rfl, HS9.out⟩
end Go.Proofs.Ytdeajjppmgfemaa
