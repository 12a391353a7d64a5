/- The walk of ShapeLeaves. -/
import Derived.Test.YtfnbmigldciblaaShape6
import Derived.Test.YtfnbmigldciblaaCopy
namespace Go.Proofs.Ytfnbmigldciblaa
open Go.RowKit
set_option linter.unusedVariables false

theorem kvs_get {ps qs : List PairX} (h : kvs ps = kvs qs) {j : Nat} (hp : j < ps.length) (hq : j < qs.length) : ps[j].ks = qs[j].ks ∧ ps[j].vs = qs[j].vs := by
  have h1 : (kvs ps)[j]? = (kvs qs)[j]? := by rw [h]
  simp only [kvs, List.getElem?_map, List.getElem?_eq_getElem hp, List.getElem?_eq_getElem hq, Option.map_some, Option.some.injEq, Prod.mk.injEq] at h1
  exact h1
theorem kvs_len {ps qs : List PairX} (h : kvs ps = kvs qs) : ps.length = qs.length := by
  have := congrArg List.length h
  simpa [kvs] using this
theorem psum_kvs (ps : List PairX) : psum ps = ((kvs ps).map fun x => 4 + x.1.length + x.2.length).sum := by
  simp only [psum, kvs, List.map_map]
  rfl
theorem kvs_part (ps : List PairX) (f n : Nat) : kvs ((ps.drop f).take n) = ((kvs ps).drop f).take n := by simp [kvs, List.map_take, List.map_drop]
theorem leafEnds_kvs {ps qs : List PairX} (h : kvs ps = kvs qs) (f t : Nat) : LeafEnds ps f t ↔ LeafEnds qs f t := by
  unfold LeafEnds
  rw [psum_kvs, psum_kvs, kvs_part, kvs_part, h]
  have hh : ∀ {us bs : List PairX}, kvs us = kvs bs → (∃ p, us[t - 1]? = some p ∧ MarkOf p.ks 0) → ∃ p, bs[t - 1]? = some p ∧ MarkOf p.ks 0 := by
    intro us bs e ⟨p, h1, h2⟩
    obtain ⟨hl, rfl⟩ := List.getElem?_eq_some_iff.1 h1
    have hb : t - 1 < bs.length := by rw [← kvs_len e]; exact hl
    refine ⟨bs[t - 1], List.getElem?_eq_getElem hb, ?_⟩
    rw [← (kvs_get e hl hb).1]; exact h2
  constructor
  · rintro (h1 | h1)
    · exact .inl (hh h h1)
    · exact .inr h1
  · rintro (h1 | h1)
    · exact .inl (hh h.symm h1)
    · exact .inr h1
theorem groupsTo_congr {E E' : Nat → Nat → Prop} [∀ a b, Decidable (E a b)] [∀ a b, Decidable (E' a b)] (N : Nat) (h : ∀ f t, E f t ↔ E' f t) : ∀ k, groupsTo E N k = groupsTo E' N k
  | 0 => rfl
  | k + 1 => by
    have ih := groupsTo_congr N h k
    by_cases he : k + 1 = N ∨ E (groupsTo E N k).2 (k + 1)
    · rw [groupsTo_end _ _ _ he, groupsTo_end E' N k (by rw [← ih, ← h]; exact he), ih]
    · rw [groupsTo_on _ _ _ he, groupsTo_on E' N k (by rw [← ih, ← h]; exact he), ih]
theorem leavesOf_kvs {ps qs : List PairX} (h : kvs ps = kvs qs) : leavesOf ps = leavesOf qs := by
  unfold leavesOf
  rw [kvs_len h, groupsTo_congr _ (leafEnds_kvs h)]

set_option maxRecDepth 100000 in
set_option maxHeartbeats 6400000 in
theorem samePairs_yes (ao bo : Option Addr) (n cap bcap : Nat) (ps qs : List PairX) (w : World) (hp : Pairs w ao ps) (hq : Pairs w bo qs) (hn : ps.length = n) (he : kvs ps = kvs qs) (hl : n ≤ 1000000) :
    Calls Try.prog 16 #[.slice ao n cap, .slice bo n bcap] w fun e w' => e = .returned (.bool true) ∧ ∃ m, w' = w.drewN m := by
  have HP := Lib.hid hp
  have HQ := Lib.hid hq
  have HN := Lib.hid hn
  have HE := Lib.hid he
  clear hp hq hn he
  go_enter Try.func16, Try.ntmps16
  go_wp2
  go_loopw [5] (fun i wr => ∃ j : Nat, j ≤ n ∧ i = .int .i64 j ∧ ∃ m, wr = w.drewN m) (fun i _ => n - (intOf i).toNat)
  case atStart => exact ⟨0, by omega, rfl, 0, rfl⟩
  case round =>
    obtain ⟨j, hj, rfl, m, rfl⟩ := hrel
    by_cases hlt : j < n
    · have hjp : j < ps.length := by have := HN.out; omega
      have hjq : j < qs.length := by have := HN.out; have := kvs_len HE.out; omega
      obtain ⟨e1, e2⟩ := kvs_get HE.out hjp hjq
      rcases HP.out with h | ⟨g, off, rfl, hpa⟩
      · subst h; simp at hjp
      rcases HQ.out with h | ⟨g2, off2, rfl, hqa⟩
      · subst h; simp at hjq
      have pa := hpa j hjp
      have qa := hqa j hjq
      obtain ⟨ko, kc, hk⟩ := pa.bk.form
      obtain ⟨vo, vc, hv⟩ := pa.bv.form
      obtain ⟨ko2, kc2, hk2⟩ := qa.bk.form
      obtain ⟨vo2, vc2, hv2⟩ := qa.bv.form
      have c0 := pa.c0
      have c1 := pa.c1
      have d0 := qa.c0
      have d1 := qa.c1
      rw [hk] at c0
      rw [hv] at c1
      rw [hk2] at d0
      rw [hv2] at d1
      have b1 := pa.bk
      have b2 := pa.bv
      have b3 := qa.bk
      have b4 := qa.bv
      rw [hk] at b1
      rw [hv] at b2
      rw [hk2] at b3
      rw [hv2] at b4
      have S1 : ∀ nq, (convert 22 9 (.slice ko ps[j].ks.length kc)).run Try.prog (w.drewN nq) = .ok (.string ⟨ps[j].ks.toArray⟩) (w.drewN nq) := fun nq =>
        run_string' (b1.same ((Keeps.refl _ _).drewN nq)) (fun a e h => pa.sk a _ _ (by rw [hk, e]) h) _ _ _ Try.underlying22 Try.underlying5 Try.underlying9
      have S2 : ∀ nq, (convert 22 9 (.slice vo ps[j].vs.length vc)).run Try.prog (w.drewN nq) = .ok (.string ⟨ps[j].vs.toArray⟩) (w.drewN nq) := fun nq =>
        run_string' (b2.same ((Keeps.refl _ _).drewN nq)) (fun a e h => pa.sv a _ _ (by rw [hv, e]) h) _ _ _ Try.underlying22 Try.underlying5 Try.underlying9
      have S3 : ∀ nq, (convert 22 9 (.slice ko2 qs[j].ks.length kc2)).run Try.prog (w.drewN nq) = .ok (.string ⟨qs[j].ks.toArray⟩) (w.drewN nq) := fun nq =>
        run_string' (b3.same ((Keeps.refl _ _).drewN nq)) (fun a e h => qa.sk a _ _ (by rw [hk2, e]) h) _ _ _ Try.underlying22 Try.underlying5 Try.underlying9
      have S4 : ∀ nq, (convert 22 9 (.slice vo2 qs[j].vs.length vc2)).run Try.prog (w.drewN nq) = .ok (.string ⟨qs[j].vs.toArray⟩) (w.drewN nq) := fun nq =>
        run_string' (b4.same ((Keeps.refl _ _).drewN nq)) (fun a e h => qa.sv a _ _ (by rw [hv2, e]) h) _ _ _ Try.underlying22 Try.underlying5 Try.underlying9
      rw [← e1] at S3 d0
      rw [← e2] at S4 d1
      clear b1 b2 b3 b4 hk hv hk2 hv2 pa qa hpa hqa e1 e2
      generalize ps[j].ks = ks at *
      generalize ps[j].vs = vs at *
      clear hjp hjq
      have hjn : (j : Int) < (n : Int) := by omega
      go_wp2
      go_quiet (fail)
      go_wp2
      go_roundw
      case rel => exact ⟨j + 1, by omega, by go_num, _, rfl⟩
      case measure => simp [intOf]; omega
    · go_wp2
      go_ret
      exact ⟨rfl, m, rfl⟩

theorem same_owns {w : World} {b1 b2 : Nat} {v1 v2 : Value} {zs : List Int} {e : TypeId} (h1 : w.ownsRow b1 e 1 v1 zs.length (i64s zs)) (h2 : w.ownsRow b2 e 1 v2 zs.length (i64s zs)) (hl : zs.length ≤ 1099511627776) :
    Calls Try.prog 13 #[v1, v2] w fun e w' => e = .returned (.bool true) ∧ ∃ m, w' = w.drewN m := by
  obtain ⟨ao, bo, c, d, rfl, rfl, i1, i2⟩ := same_own h1 h2
  refine (same_ints ao bo _ c d _ _ w i1 i2 rfl rfl hl).mono ?_
  rintro e w' ⟨b, rfl, hm, hb⟩
  exact ⟨by rw [hb.2 rfl], hm⟩

theorem leavesOf_len' (ps : List PairX) : (leavesOf ps).length ≤ ps.length + 1 := by
  unfold leavesOf
  split
  · simp
  · have := (groupsTo_le (LeafEnds ps) ps.length ps.length).2; omega

set_option maxRecDepth 100000 in
set_option maxHeartbeats 1600000 in
theorem rleaves_none (ao : Option Addr) (cap : Nat) (w : World) :
    Calls Try.prog 15 #[.slice ao 0 cap] w fun e w' => ∃ v, e = .returned v ∧ w'.ownsRow w.heap.size 3 1 v ([0] : List Int).length (i64s [0]) ∧ Same w w' := by
  go_enter Try.func15, Try.ntmps15
  go_wp2
  go_loopw [3, 4, 5, 6] (fun o i _ _ wr => i = .int .i64 0 ∧ o = .slice (some ⟨w.heap.size, 0, none⟩) 0 0 ∧ wr = w.alloc (.cells #[] 3)) (fun _ _ _ _ _ => 0)
  case atStart => exact ⟨rfl, rfl, rfl⟩
  case round =>
    obtain ⟨rfl, rfl, rfl⟩ := hrel
    go_wp2
    go_ret
    refine ⟨_, rfl, own_lit (by simp) ?_, ((Keeps.refl _ _).alloc _).alloc _⟩
    have := heap_alloc_new (w.alloc (.cells #[] 3)) (.cells #[.int .i64 0] 3)
    simpa using this
theorem rleaves_any (ao : Option Addr) (cap N : Nat) (ps : List PairX) (w : World) (hr : Pairs w ao ps) (hN : ps.length = N) (hm : psum ps ≤ 1000000) :
    Calls Try.prog 15 #[.slice ao N cap] w fun e w' => ∃ v, e = .returned v ∧ w'.ownsRow w.heap.size 3 1 v (leavesOf ps).length (i64s (leavesOf ps)) ∧ Same w w' := by
  by_cases h0 : N = 0
  · subst h0
    have hl : leavesOf ps = [0] := if_pos hN
    rw [hl]
    exact rleaves_none ao cap w
  · exact rleaves_some ao cap N ps w hr hN (by omega) hm

set_option maxRecDepth 100000 in
set_option maxHeartbeats 6400000 in
theorem leavesLaw (ao : Option Addr) (cap N : Nat) (ps : List PairX) (w : World) (hr : Pairs w ao ps) (hN : ps.length = N) (hcap : N ≤ cap) (hcm : cap ≤ 9223372036854775807) :
    Calls Try.prog 4 #[.slice ao N cap] w fun e w' => e = .returned (.bool true) ∧ Same w w' := by
  have HR := Lib.hid hr
  have HN := Lib.hid hN
  clear hr hN
  go_enter Try.func4, Try.ntmps4
  go_wp2_with fail
  ((with_reducible refine (speaks06 _).mono ?_); rintro e w1 ⟨rfl, hk1⟩)
  have HK1 := Lib.hid hk1
  clear hk1
  go_wp2_with fail
  ((with_reducible refine (great_any ao N cap ps _ (HR.out.same HK1.out) HN.out (by omega)).mono ?_); rintro e w2 ⟨b, rfl, ⟨m, hw2⟩, hgr⟩)
  have HK2 : Hid (Same w w2) := Lib.hid (by rw [hw2]; exact HK1.out.drewN m)
  clear hw2
  cases b with
  | true =>
    clear hgr
    go_wp2
    go_ret
    exact ⟨rfl, HK2.out⟩
  | false =>
    have hgr := hgr rfl
    have hm1 : psum ps ≤ 8000 := by omega
    have hNl : N ≤ 2000 := by have := HN.out; omega
    have HM := Lib.hid hm1
    clear hgr hm1
    go_wp2_with fail
    ((with_reducible refine (copyPairs_any ao cap N ps w2 (HR.out.same HK2.out) HN.out (by have := HM.out; omega)).mono ?_); rintro e w3 ⟨io, icap, qs, rfl, hql, hic, hqp, hkv, hk3⟩)
    have HQL := Lib.hid hql
    have HQP := Lib.hid hqp
    have HKV := Lib.hid hkv
    have HK3 : Hid (Same w w3) := Lib.hid (HK2.out.trans hk3 (fun _ _ e => e))
    clear hql hqp hkv hk3
    go_wp2_with fail
    ((with_reducible refine (show Calls Try.prog 14 #[.slice io N icap] w3 _ from HQL.out ▸ leaves_any io icap qs w3 HQP.out (by have := HQL.out; omega) (by have := HM.out; rw [psum_kvs, HKV.out, ← psum_kvs]; omega)).mono ?_); rintro e w4 ⟨v, rfl, ho, hk4⟩)
    rw [leavesOf_kvs HKV.out] at ho
    have HO := Lib.hid ho
    have HK4 : Hid (Same w3 w4) := Lib.hid hk4
    clear ho hk4
    go_wp2_with fail
    ((with_reducible refine (rleaves_any ao cap N ps w4 (HR.out.same (HK3.out.trans HK4.out (fun _ _ e => e))) HN.out (by have := HM.out; omega)).mono ?_); rintro e w5 ⟨v5, rfl, ho5, hk5⟩)
    have HO5 := Lib.hid ho5
    have HK5 := Lib.hid hk5
    clear ho5 hk5
    go_wp2_with fail
    ((with_reducible refine (same_owns (own_keeps HK5.out HO.out (fun _ _ e => e)) HO5.out (by have := leavesOf_len' ps; have := HN.out; omega)).mono ?_); rintro e w6 ⟨rfl, m6, hw6⟩)
    have HK6 : Hid (Same w3 w6) := Lib.hid (by rw [hw6]; exact (HK4.out.trans HK5.out (fun _ _ e => e)).drewN m6)
    clear hw6
    go_wp2_with fail
    ((with_reducible refine (samePairs_yes io ao N icap cap qs ps w6 (HQP.out.same HK6.out) (HR.out.same (HK3.out.trans HK6.out (fun _ _ e => e))) HQL.out HKV.out (by omega)).mono ?_); rintro e w7 ⟨rfl, m7, hw7⟩)
    have HK7 : Hid (Same w w7) := Lib.hid (by rw [hw7]; exact (HK3.out.trans HK6.out (fun _ _ e => e)).drewN m7)
    clear hw7
    go_wp2
    go_ret
    exact ⟨rfl, HK7.out⟩

end Go.Proofs.Ytfnbmigldciblaa
