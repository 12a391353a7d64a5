/- SamePairs; the document's Same of nodes. -/
import Derived.Test.YtdeajjppmgfemaaNd3
import Derived.Test.YtdeajjppmgfemaaOst
import Derived.Test.YtdeajjppmgfemaaEqH
namespace Go.Proofs.Ytdeajjppmgfemaa
open Go.RowKit
set_option linter.unusedVariables false

theorem take_step {α : Type} {l m : List α} {j : Nat} {x : α} (h : l.take j = m.take j) (hl : l[j]? = some x) (hm : m[j]? = some x) : l.take (j + 1) = m.take (j + 1) := by
  rw [List.take_add_one, List.take_add_one, h, hl, hm]
theorem ne_at {α : Type} {l m : List α} {j : Nat} {x y : α} (hl : l[j]? = some x) (hm : m[j]? = some y) (h : ¬ x = y) : ¬ l = m := fun e => h (by
  rw [e, hm] at hl
  exact (Option.some.inj hl).symm)
theorem PairAt.facts {w : World} {g off : Nat} {p : PairX} (h : PairAt w g off p) : ∀ w', Same w w' → w'.cell? ⟨g, off, none⟩ = some p.kv ∧ w'.cell? ⟨g, off + 1, none⟩ = some p.vv ∧
    (convert 29 9 p.kv).run Try.prog w' = .ok (.string ⟨p.ks.toArray⟩) w' ∧ (convert 29 9 p.vv).run Try.prog w' = .ok (.string ⟨p.vs.toArray⟩) w' := fun w' k =>
  ⟨(h.same k).c0, (h.same k).c1, bytes_str (h.same k).bk h.sk, bytes_str (h.same k).bv h.sv⟩
theorem KidAt.facts {w : World} {g off : Nat} {p : KidX} (h : KidAt w g off p) : ∀ w', Same w w' → w'.cell? ⟨g, off, none⟩ = some p.fv ∧
    (convert 29 9 p.fv).run Try.prog w' = .ok (.string ⟨p.fs.toArray⟩) w' ∧ w'.rangeAt g (off + 1) (u8s p.hs) := fun w' k =>
  ⟨(h.same k).cell0, bytes_str (h.same k).bf h.sf, fun j v hj => by
    have := (h.same k).ra (j + 1) v (by simpa [KidX.cells] using hj)
    rwa [show off + (j + 1) = off + 1 + j from by omega] at this⟩
theorem Try.sizeHash : (Try.prog.info? 44).map (fun i => i.size) = some 32 := by kernel_rfl

set_option maxRecDepth 100000 in
set_option maxHeartbeats 1600000 in
theorem samePairs_len (ao bo : Option Addr) (n m cap bcap : Nat) (ps qs : List PairX) (w : World) (hn : ps.length = n) (hm : qs.length = m) (h : ¬ n = m) :
    Calls Try.prog 24 #[.slice ao n cap, .slice bo m bcap] w (BoolPost w (kvs ps = kvs qs)) := by
  have hno : ¬ kvs ps = kvs qs := fun e => h (by rw [← hn, ← hm, ← kvs_length ps, ← kvs_length qs, e])
  have hb : ((n : Int) == (m : Int)) = false := by simp; omega
  have HNO := Lib.hid hno
  clear hno hn hm
  go_enter Try.func24, Try.ntmps24
  go_wp2
  go_ret
  exact BoolPost.no (Keeps.refl _ _) HNO.out

set_option maxRecDepth 100000 in
set_option maxHeartbeats 12800000 in
theorem samePairs_eq (ao bo : Option Addr) (n cap bcap : Nat) (ps qs : List PairX) (w : World) (hp : Pairs w ao ps) (hq : Pairs w bo qs) (hn : ps.length = n) (hm : qs.length = n) (hl : n ≤ 1000000) :
    Calls Try.prog 24 #[.slice ao n cap, .slice bo n bcap] w (BoolPost w (kvs ps = kvs qs)) := by
  have HP := Lib.hid hp
  have HQ := Lib.hid hq
  have HN := Lib.hid hn
  have HM := Lib.hid hm
  clear hp hq hn hm
  go_enter Try.func24, Try.ntmps24
  go_wp2
  go_loopw [5] (fun i wr => ∃ j : Nat, j ≤ n ∧ i = .int .i64 j ∧ (kvs ps).take j = (kvs qs).take j ∧ Same w wr) (fun i _ => n - (intOf i).toNat)
  case atStart => exact ⟨0, by omega, rfl, by simp, Keeps.refl _ _⟩
  case round =>
    obtain ⟨j, hj, rfl, ht, hs⟩ := hrel
    have HT := Lib.hid ht
    have HS := Lib.hid hs
    clear ht hs
    by_cases hlt : j < n
    · have hjp : j < ps.length := by have := HN.out; omega
      have hjq : j < qs.length := by have := HM.out; omega
      obtain ⟨g, off, rfl, hpa⟩ : ∃ g off, ao = some ⟨g, off, none⟩ ∧ ∀ j (h : j < ps.length), PairAt w g (off + j * 2) ps[j] := by
        rcases HP.out with h | h
        · rw [h] at hjp; simp at hjp
        · exact h
      obtain ⟨g2, off2, rfl, hqa⟩ : ∃ g off, bo = some ⟨g, off, none⟩ ∧ ∀ j (h : j < qs.length), PairAt w g (off + j * 2) qs[j] := by
        rcases HQ.out with h | h
        · rw [h] at hjq; simp at hjq
        · exact h
      have HA := Lib.hid (hpa j hjp).facts
      have HB := Lib.hid (hqa j hjq).facts
      have HG : Hid ((kvs ps)[j]? = some (ps[j].ks, ps[j].vs) ∧ (kvs qs)[j]? = some (qs[j].ks, qs[j].vs)) := Lib.hid (by simp [kvs, hjp, hjq])
      generalize ps[j].kv = kv1 at *
      generalize ps[j].vv = vv1 at *
      generalize ps[j].ks = k1 at *
      generalize ps[j].vs = v1 at *
      generalize qs[j].kv = kv2 at *
      generalize qs[j].vv = vv2 at *
      generalize qs[j].ks = k2 at *
      generalize qs[j].vs = v2 at *
      have hjn : (j : Int) < (n : Int) := by omega
      clear hpa hqa hjp hjq
      by_cases hd : k1 = k2
      · subst hd
        by_cases hd : v1 = v2
        · subst hd
          go_wp2
          refine wp_region_do [[], [], [0, 1], [2], [3], [4], [], [], [6, 7], [8], [9], [10], [5, 11], [12], [13], [13], [14, 15, 13], [16, 13], [17, 13], [18, 13], [13], [13], [20, 21, 13], [22, 13], [23, 13], [24, 13], [19, 25, 13], [13, 26]]
            [some 17, some 18, some 19, some 20, some 21, some 22, some 23, some 24, some 25, some 26, some 27, some 28, some 29, some 30, some 31, some 32, some 33, some 34, some 35, some 36, some 37, some 38, some 39, some 40, some 41, some 42, some 43, some 44]
            [.is (.slice (some ⟨g, off, none⟩) n cap), .is (.int .i64 (j : Int)), .is (.pointer (some ⟨g, off + j * 2, none⟩)), .is (.pointer (some ⟨g, off + j * 2, none⟩)), .is (kv1), .is (.string ⟨k1.toArray⟩), .is (.slice (some ⟨g2, off2, none⟩) n bcap), .is (.int .i64 (j : Int)), .is (.pointer (some ⟨g2, off2 + j * 2, none⟩)), .is (.pointer (some ⟨g2, off2 + j * 2, none⟩)), .is (kv2), .is (.string ⟨k1.toArray⟩), .is (.bool false), .is (.bool false), .is (.slice (some ⟨g, off, none⟩) n cap), .is (.int .i64 (j : Int)), .is (.pointer (some ⟨g, off + j * 2, none⟩)), .is (.pointer (some ⟨g, off + j * 2 + 1, none⟩)), .is (vv1), .is (.string ⟨v1.toArray⟩), .is (.slice (some ⟨g2, off2, none⟩) n bcap), .is (.int .i64 (j : Int)), .is (.pointer (some ⟨g2, off2 + j * 2, none⟩)), .is (.pointer (some ⟨g2, off2 + j * 2 + 1, none⟩)), .is (vv2), .is (.string ⟨v1.toArray⟩), .is (.bool false), .is (.bool false)]
            6 _ _ 45 28 (by kernel_rfl) (by rfl) (by rfl) (by kernel_rfl) (by kernel_rfl) (by decide) ?_ ?_
          · refine ⟨?_, ?_, ?_, ?_, ?_, ?_, ?_, ?_, ?_, ?_, ?_, ?_, ?_, ?_, ?_, ?_, ?_, ?_, ?_, ?_, ?_, ?_, ?_, ?_, ?_, ?_, ?_, ?_, trivial⟩
            · intro a w' K hs' hdep hfr hK
              have f0 := hfr 0 (by decide)
              exact plan_do (by rfl) (plan_yield (i := 0) (V := fun _ _ v => v = (.slice (some ⟨g, off, none⟩) n cap : Value)) (.slice (some ⟨g, off, none⟩) n cap) (by go_simp) rfl hK)
            · intro a w' K hs' hdep hfr hK
              have f5 := hfr 5 (by decide)
              exact plan_do (by rfl) (plan_yield (i := 1) (V := fun _ _ v => v = (.int .i64 (j : Int) : Value)) (.int .i64 (j : Int)) (by go_simp) rfl hK)
            · intro a w' K hs' hdep hfr hK
              have e17 : a.tmps[17]?.getD undef = (.slice (some ⟨g, off, none⟩) n cap) := hdep 0 (by decide) 17 rfl
              have e18 : a.tmps[18]?.getD undef = (.int .i64 (j : Int)) := hdep 1 (by decide) 18 rfl
              have hin : (j : Int) < (n : Int) := by omega
              exact plan_do (by rfl) (plan_yield (i := 2) (V := fun _ _ v => v = (.pointer (some ⟨g, off + j * 2, none⟩) : Value)) (.pointer (some ⟨g, off + j * 2, none⟩)) (by go_simp) rfl hK)
            · intro a w' K hs' hdep hfr hK
              have e19 : a.tmps[19]?.getD undef = (.pointer (some ⟨g, off + j * 2, none⟩)) := hdep 2 (by decide) 19 rfl
              exact plan_do (by rfl) (plan_yield (i := 3) (V := fun _ _ v => v = (.pointer (some ⟨g, off + j * 2, none⟩) : Value)) (.pointer (some ⟨g, off + j * 2, none⟩)) (by go_simp) rfl hK)
            · intro a w' K hs' hdep hfr hK
              have e20 : a.tmps[20]?.getD undef = (.pointer (some ⟨g, off + j * 2, none⟩)) := hdep 3 (by decide) 20 rfl
              have ca := HA.out _ (HS.out.trans hs' (fun _ _ e => e))
              have cl := ca.1
              exact plan_do (by rfl) (plan_yield (i := 4) (V := fun _ _ v => v = (kv1 : Value)) (kv1) (by go_simp) rfl hK)
            · intro a w' K hs' hdep hfr hK
              have e21 : a.tmps[21]?.getD undef = (kv1) := hdep 4 (by decide) 21 rfl
              have ca := HA.out _ (HS.out.trans hs' (fun _ _ e => e))
              have cl := ca.2.2.1
              exact plan_do (by rfl) (plan_yield (i := 5) (V := fun _ _ v => v = (.string ⟨k1.toArray⟩ : Value)) (.string ⟨k1.toArray⟩) (by go_simp) rfl hK)
            · intro a w' K hs' hdep hfr hK
              have f1 := hfr 1 (by decide)
              exact plan_do (by rfl) (plan_yield (i := 6) (V := fun _ _ v => v = (.slice (some ⟨g2, off2, none⟩) n bcap : Value)) (.slice (some ⟨g2, off2, none⟩) n bcap) (by go_simp) rfl hK)
            · intro a w' K hs' hdep hfr hK
              have f5 := hfr 5 (by decide)
              exact plan_do (by rfl) (plan_yield (i := 7) (V := fun _ _ v => v = (.int .i64 (j : Int) : Value)) (.int .i64 (j : Int)) (by go_simp) rfl hK)
            · intro a w' K hs' hdep hfr hK
              have e23 : a.tmps[23]?.getD undef = (.slice (some ⟨g2, off2, none⟩) n bcap) := hdep 6 (by decide) 23 rfl
              have e24 : a.tmps[24]?.getD undef = (.int .i64 (j : Int)) := hdep 7 (by decide) 24 rfl
              have hin : (j : Int) < (n : Int) := by omega
              exact plan_do (by rfl) (plan_yield (i := 8) (V := fun _ _ v => v = (.pointer (some ⟨g2, off2 + j * 2, none⟩) : Value)) (.pointer (some ⟨g2, off2 + j * 2, none⟩)) (by go_simp) rfl hK)
            · intro a w' K hs' hdep hfr hK
              have e25 : a.tmps[25]?.getD undef = (.pointer (some ⟨g2, off2 + j * 2, none⟩)) := hdep 8 (by decide) 25 rfl
              exact plan_do (by rfl) (plan_yield (i := 9) (V := fun _ _ v => v = (.pointer (some ⟨g2, off2 + j * 2, none⟩) : Value)) (.pointer (some ⟨g2, off2 + j * 2, none⟩)) (by go_simp) rfl hK)
            · intro a w' K hs' hdep hfr hK
              have e26 : a.tmps[26]?.getD undef = (.pointer (some ⟨g2, off2 + j * 2, none⟩)) := hdep 9 (by decide) 26 rfl
              have cb := HB.out _ (HS.out.trans hs' (fun _ _ e => e))
              have cl := cb.1
              exact plan_do (by rfl) (plan_yield (i := 10) (V := fun _ _ v => v = (kv2 : Value)) (kv2) (by go_simp) rfl hK)
            · intro a w' K hs' hdep hfr hK
              have e27 : a.tmps[27]?.getD undef = (kv2) := hdep 10 (by decide) 27 rfl
              have cb := HB.out _ (HS.out.trans hs' (fun _ _ e => e))
              have cl := cb.2.2.1
              exact plan_do (by rfl) (plan_yield (i := 11) (V := fun _ _ v => v = (.string ⟨k1.toArray⟩ : Value)) (.string ⟨k1.toArray⟩) (by go_simp) rfl hK)
            · intro a w' K hs' hdep hfr hK
              have e22 : a.tmps[22]?.getD undef = (.string ⟨k1.toArray⟩) := hdep 5 (by decide) 22 rfl
              have e28 : a.tmps[28]?.getD undef = (.string ⟨k1.toArray⟩) := hdep 11 (by decide) 28 rfl
              have z1 := str_list k1
              have z2 := str_list k1
              exact plan_do (by rfl) (plan_yield (i := 12) (V := fun _ _ v => v = (.bool false : Value)) (.bool false) (by go_simp) rfl hK)
            · intro a w' K hs' hdep hfr hK
              have e29 : a.tmps[29]?.getD undef = (.bool false) := hdep 12 (by decide) 29 rfl
              exact plan_do (by rfl) (plan_yield (i := 13) (V := fun _ _ v => v = (.bool false : Value)) (.bool false) (by go_simp) rfl hK)
            · intro a w' K hs' hdep hfr hK
              have e30 : a.tmps[30]?.getD undef = (.bool false) := hdep 13 (by decide) 30 rfl
              have f0 := hfr 0 (by decide)
              exact plan_do (wanted_of 13 30 false rfl rfl e30) (plan_yield (i := 14) (V := fun _ _ v => v = (.slice (some ⟨g, off, none⟩) n cap : Value)) (.slice (some ⟨g, off, none⟩) n cap) (by go_simp) rfl hK)
            · intro a w' K hs' hdep hfr hK
              have e30 : a.tmps[30]?.getD undef = (.bool false) := hdep 13 (by decide) 30 rfl
              have f5 := hfr 5 (by decide)
              exact plan_do (wanted_of 13 30 false rfl rfl e30) (plan_yield (i := 15) (V := fun _ _ v => v = (.int .i64 (j : Int) : Value)) (.int .i64 (j : Int)) (by go_simp) rfl hK)
            · intro a w' K hs' hdep hfr hK
              have e31 : a.tmps[31]?.getD undef = (.slice (some ⟨g, off, none⟩) n cap) := hdep 14 (by decide) 31 rfl
              have e32 : a.tmps[32]?.getD undef = (.int .i64 (j : Int)) := hdep 15 (by decide) 32 rfl
              have e30 : a.tmps[30]?.getD undef = (.bool false) := hdep 13 (by decide) 30 rfl
              have hin : (j : Int) < (n : Int) := by omega
              exact plan_do (wanted_of 13 30 false rfl rfl e30) (plan_yield (i := 16) (V := fun _ _ v => v = (.pointer (some ⟨g, off + j * 2, none⟩) : Value)) (.pointer (some ⟨g, off + j * 2, none⟩)) (by go_simp) rfl hK)
            · intro a w' K hs' hdep hfr hK
              have e33 : a.tmps[33]?.getD undef = (.pointer (some ⟨g, off + j * 2, none⟩)) := hdep 16 (by decide) 33 rfl
              have e30 : a.tmps[30]?.getD undef = (.bool false) := hdep 13 (by decide) 30 rfl
              exact plan_do (wanted_of 13 30 false rfl rfl e30) (plan_yield (i := 17) (V := fun _ _ v => v = (.pointer (some ⟨g, off + j * 2 + 1, none⟩) : Value)) (.pointer (some ⟨g, off + j * 2 + 1, none⟩)) (by go_simp) rfl hK)
            · intro a w' K hs' hdep hfr hK
              have e34 : a.tmps[34]?.getD undef = (.pointer (some ⟨g, off + j * 2 + 1, none⟩)) := hdep 17 (by decide) 34 rfl
              have e30 : a.tmps[30]?.getD undef = (.bool false) := hdep 13 (by decide) 30 rfl
              have ca := HA.out _ (HS.out.trans hs' (fun _ _ e => e))
              have cl := ca.2.1
              exact plan_do (wanted_of 13 30 false rfl rfl e30) (plan_yield (i := 18) (V := fun _ _ v => v = (vv1 : Value)) (vv1) (by go_simp) rfl hK)
            · intro a w' K hs' hdep hfr hK
              have e35 : a.tmps[35]?.getD undef = (vv1) := hdep 18 (by decide) 35 rfl
              have e30 : a.tmps[30]?.getD undef = (.bool false) := hdep 13 (by decide) 30 rfl
              have ca := HA.out _ (HS.out.trans hs' (fun _ _ e => e))
              have cl := ca.2.2.2
              exact plan_do (wanted_of 13 30 false rfl rfl e30) (plan_yield (i := 19) (V := fun _ _ v => v = (.string ⟨v1.toArray⟩ : Value)) (.string ⟨v1.toArray⟩) (by go_simp) rfl hK)
            · intro a w' K hs' hdep hfr hK
              have e30 : a.tmps[30]?.getD undef = (.bool false) := hdep 13 (by decide) 30 rfl
              have f1 := hfr 1 (by decide)
              exact plan_do (wanted_of 13 30 false rfl rfl e30) (plan_yield (i := 20) (V := fun _ _ v => v = (.slice (some ⟨g2, off2, none⟩) n bcap : Value)) (.slice (some ⟨g2, off2, none⟩) n bcap) (by go_simp) rfl hK)
            · intro a w' K hs' hdep hfr hK
              have e30 : a.tmps[30]?.getD undef = (.bool false) := hdep 13 (by decide) 30 rfl
              have f5 := hfr 5 (by decide)
              exact plan_do (wanted_of 13 30 false rfl rfl e30) (plan_yield (i := 21) (V := fun _ _ v => v = (.int .i64 (j : Int) : Value)) (.int .i64 (j : Int)) (by go_simp) rfl hK)
            · intro a w' K hs' hdep hfr hK
              have e37 : a.tmps[37]?.getD undef = (.slice (some ⟨g2, off2, none⟩) n bcap) := hdep 20 (by decide) 37 rfl
              have e38 : a.tmps[38]?.getD undef = (.int .i64 (j : Int)) := hdep 21 (by decide) 38 rfl
              have e30 : a.tmps[30]?.getD undef = (.bool false) := hdep 13 (by decide) 30 rfl
              have hin : (j : Int) < (n : Int) := by omega
              exact plan_do (wanted_of 13 30 false rfl rfl e30) (plan_yield (i := 22) (V := fun _ _ v => v = (.pointer (some ⟨g2, off2 + j * 2, none⟩) : Value)) (.pointer (some ⟨g2, off2 + j * 2, none⟩)) (by go_simp) rfl hK)
            · intro a w' K hs' hdep hfr hK
              have e39 : a.tmps[39]?.getD undef = (.pointer (some ⟨g2, off2 + j * 2, none⟩)) := hdep 22 (by decide) 39 rfl
              have e30 : a.tmps[30]?.getD undef = (.bool false) := hdep 13 (by decide) 30 rfl
              exact plan_do (wanted_of 13 30 false rfl rfl e30) (plan_yield (i := 23) (V := fun _ _ v => v = (.pointer (some ⟨g2, off2 + j * 2 + 1, none⟩) : Value)) (.pointer (some ⟨g2, off2 + j * 2 + 1, none⟩)) (by go_simp) rfl hK)
            · intro a w' K hs' hdep hfr hK
              have e40 : a.tmps[40]?.getD undef = (.pointer (some ⟨g2, off2 + j * 2 + 1, none⟩)) := hdep 23 (by decide) 40 rfl
              have e30 : a.tmps[30]?.getD undef = (.bool false) := hdep 13 (by decide) 30 rfl
              have cb := HB.out _ (HS.out.trans hs' (fun _ _ e => e))
              have cl := cb.2.1
              exact plan_do (wanted_of 13 30 false rfl rfl e30) (plan_yield (i := 24) (V := fun _ _ v => v = (vv2 : Value)) (vv2) (by go_simp) rfl hK)
            · intro a w' K hs' hdep hfr hK
              have e41 : a.tmps[41]?.getD undef = (vv2) := hdep 24 (by decide) 41 rfl
              have e30 : a.tmps[30]?.getD undef = (.bool false) := hdep 13 (by decide) 30 rfl
              have cb := HB.out _ (HS.out.trans hs' (fun _ _ e => e))
              have cl := cb.2.2.2
              exact plan_do (wanted_of 13 30 false rfl rfl e30) (plan_yield (i := 25) (V := fun _ _ v => v = (.string ⟨v1.toArray⟩ : Value)) (.string ⟨v1.toArray⟩) (by go_simp) rfl hK)
            · intro a w' K hs' hdep hfr hK
              have e36 : a.tmps[36]?.getD undef = (.string ⟨v1.toArray⟩) := hdep 19 (by decide) 36 rfl
              have e42 : a.tmps[42]?.getD undef = (.string ⟨v1.toArray⟩) := hdep 25 (by decide) 42 rfl
              have e30 : a.tmps[30]?.getD undef = (.bool false) := hdep 13 (by decide) 30 rfl
              have z1 := str_list v1
              have z2 := str_list v1
              exact plan_do (wanted_of 13 30 false rfl rfl e30) (plan_yield (i := 26) (V := fun _ _ v => v = (.bool false : Value)) (.bool false) (by go_simp) rfl hK)
            · intro a w' K hs' hdep hfr hK
              have e30 : a.tmps[30]?.getD undef = (.bool false) := hdep 13 (by decide) 30 rfl
              have e43 : a.tmps[43]?.getD undef = (.bool false) := hdep 26 (by decide) 43 rfl
              exact plan_do (by rfl) (plan_yield (i := 27) (V := fun _ _ v => v = (.bool false : Value)) (.bool false) (by go_simp) rfl hK)
          intro a wz hkz hdef hsz hv hfr
          have e44 : a.tmps[44]?.getD undef = (.bool false) := hv 27 44 rfl
          have he := act_eq a _ [some 17, some 18, some 19, some 20, some 21, some 22, some 23, some 24, some 25, some 26, some 27, some 28, some 29, some 30, some 31, some 32, some 33, some 34, some 35, some 36, some 37, some 38, some 39, some 40, some 41, some 42, some 43, some 44] 45 rfl hsz hdef hfr (fun d => a.tmps[d]?.getD undef) (fun _ _ => rfl)
          obtain ⟨v17, h17⟩ : ∃ v, a.tmps[17]?.getD undef = v := ⟨_, rfl⟩
          obtain ⟨v18, h18⟩ : ∃ v, a.tmps[18]?.getD undef = v := ⟨_, rfl⟩
          obtain ⟨v19, h19⟩ : ∃ v, a.tmps[19]?.getD undef = v := ⟨_, rfl⟩
          obtain ⟨v20, h20⟩ : ∃ v, a.tmps[20]?.getD undef = v := ⟨_, rfl⟩
          obtain ⟨v21, h21⟩ : ∃ v, a.tmps[21]?.getD undef = v := ⟨_, rfl⟩
          obtain ⟨v22, h22⟩ : ∃ v, a.tmps[22]?.getD undef = v := ⟨_, rfl⟩
          obtain ⟨v23, h23⟩ : ∃ v, a.tmps[23]?.getD undef = v := ⟨_, rfl⟩
          obtain ⟨v24, h24⟩ : ∃ v, a.tmps[24]?.getD undef = v := ⟨_, rfl⟩
          obtain ⟨v25, h25⟩ : ∃ v, a.tmps[25]?.getD undef = v := ⟨_, rfl⟩
          obtain ⟨v26, h26⟩ : ∃ v, a.tmps[26]?.getD undef = v := ⟨_, rfl⟩
          obtain ⟨v27, h27⟩ : ∃ v, a.tmps[27]?.getD undef = v := ⟨_, rfl⟩
          obtain ⟨v28, h28⟩ : ∃ v, a.tmps[28]?.getD undef = v := ⟨_, rfl⟩
          obtain ⟨v29, h29⟩ : ∃ v, a.tmps[29]?.getD undef = v := ⟨_, rfl⟩
          obtain ⟨v30, h30⟩ : ∃ v, a.tmps[30]?.getD undef = v := ⟨_, rfl⟩
          obtain ⟨v31, h31⟩ : ∃ v, a.tmps[31]?.getD undef = v := ⟨_, rfl⟩
          obtain ⟨v32, h32⟩ : ∃ v, a.tmps[32]?.getD undef = v := ⟨_, rfl⟩
          obtain ⟨v33, h33⟩ : ∃ v, a.tmps[33]?.getD undef = v := ⟨_, rfl⟩
          obtain ⟨v34, h34⟩ : ∃ v, a.tmps[34]?.getD undef = v := ⟨_, rfl⟩
          obtain ⟨v35, h35⟩ : ∃ v, a.tmps[35]?.getD undef = v := ⟨_, rfl⟩
          obtain ⟨v36, h36⟩ : ∃ v, a.tmps[36]?.getD undef = v := ⟨_, rfl⟩
          obtain ⟨v37, h37⟩ : ∃ v, a.tmps[37]?.getD undef = v := ⟨_, rfl⟩
          obtain ⟨v38, h38⟩ : ∃ v, a.tmps[38]?.getD undef = v := ⟨_, rfl⟩
          obtain ⟨v39, h39⟩ : ∃ v, a.tmps[39]?.getD undef = v := ⟨_, rfl⟩
          obtain ⟨v40, h40⟩ : ∃ v, a.tmps[40]?.getD undef = v := ⟨_, rfl⟩
          obtain ⟨v41, h41⟩ : ∃ v, a.tmps[41]?.getD undef = v := ⟨_, rfl⟩
          obtain ⟨v42, h42⟩ : ∃ v, a.tmps[42]?.getD undef = v := ⟨_, rfl⟩
          obtain ⟨v43, h43⟩ : ∃ v, a.tmps[43]?.getD undef = v := ⟨_, rfl⟩
          simp only [putAll, e44, h17, h18, h19, h20, h21, h22, h23, h24, h25, h26, h27, h28, h29, h30, h31, h32, h33, h34, h35, h36, h37, h38, h39, h40, h41, h42, h43, List.setIfInBounds_toArray, List.set_cons_zero, List.set_cons_succ] at he
          clear e44 h17 h18 h19 h20 h21 h22 h23 h24 h25 h26 h27 h28 h29 h30 h31 h32 h33 h34 h35 h36 h37 h38 h39 h40 h41 h42 h43 hdef hsz hv hfr
          subst he
          have HKZ := Lib.hid hkz
          clear hkz
          go_wp2
          go_roundw
          case rel => exact ⟨j + 1, by omega, by go_num, take_step HT.out HG.out.1 HG.out.2, HS.out.trans HKZ.out (fun _ _ e => e)⟩
          case measure => simp [intOf]; omega
        · have HD := Lib.hid hd
          clear hd
          go_wp2
          refine wp_region_do [[], [], [0, 1], [2], [3], [4], [], [], [6, 7], [8], [9], [10], [5, 11], [12], [13], [13], [14, 15, 13], [16, 13], [17, 13], [18, 13], [13], [13], [20, 21, 13], [22, 13], [23, 13], [24, 13], [19, 25, 13], [13, 26]]
            [some 17, some 18, some 19, some 20, some 21, some 22, some 23, some 24, some 25, some 26, some 27, some 28, some 29, some 30, some 31, some 32, some 33, some 34, some 35, some 36, some 37, some 38, some 39, some 40, some 41, some 42, some 43, some 44]
            [.is (.slice (some ⟨g, off, none⟩) n cap), .is (.int .i64 (j : Int)), .is (.pointer (some ⟨g, off + j * 2, none⟩)), .is (.pointer (some ⟨g, off + j * 2, none⟩)), .is (kv1), .is (.string ⟨k1.toArray⟩), .is (.slice (some ⟨g2, off2, none⟩) n bcap), .is (.int .i64 (j : Int)), .is (.pointer (some ⟨g2, off2 + j * 2, none⟩)), .is (.pointer (some ⟨g2, off2 + j * 2, none⟩)), .is (kv2), .is (.string ⟨k1.toArray⟩), .is (.bool false), .is (.bool false), .is (.slice (some ⟨g, off, none⟩) n cap), .is (.int .i64 (j : Int)), .is (.pointer (some ⟨g, off + j * 2, none⟩)), .is (.pointer (some ⟨g, off + j * 2 + 1, none⟩)), .is (vv1), .is (.string ⟨v1.toArray⟩), .is (.slice (some ⟨g2, off2, none⟩) n bcap), .is (.int .i64 (j : Int)), .is (.pointer (some ⟨g2, off2 + j * 2, none⟩)), .is (.pointer (some ⟨g2, off2 + j * 2 + 1, none⟩)), .is (vv2), .is (.string ⟨v2.toArray⟩), .is (.bool true), .is (.bool true)]
            6 _ _ 45 28 (by kernel_rfl) (by rfl) (by rfl) (by kernel_rfl) (by kernel_rfl) (by decide) ?_ ?_
          · refine ⟨?_, ?_, ?_, ?_, ?_, ?_, ?_, ?_, ?_, ?_, ?_, ?_, ?_, ?_, ?_, ?_, ?_, ?_, ?_, ?_, ?_, ?_, ?_, ?_, ?_, ?_, ?_, ?_, trivial⟩
            · intro a w' K hs' hdep hfr hK
              have f0 := hfr 0 (by decide)
              exact plan_do (by rfl) (plan_yield (i := 0) (V := fun _ _ v => v = (.slice (some ⟨g, off, none⟩) n cap : Value)) (.slice (some ⟨g, off, none⟩) n cap) (by go_simp) rfl hK)
            · intro a w' K hs' hdep hfr hK
              have f5 := hfr 5 (by decide)
              exact plan_do (by rfl) (plan_yield (i := 1) (V := fun _ _ v => v = (.int .i64 (j : Int) : Value)) (.int .i64 (j : Int)) (by go_simp) rfl hK)
            · intro a w' K hs' hdep hfr hK
              have e17 : a.tmps[17]?.getD undef = (.slice (some ⟨g, off, none⟩) n cap) := hdep 0 (by decide) 17 rfl
              have e18 : a.tmps[18]?.getD undef = (.int .i64 (j : Int)) := hdep 1 (by decide) 18 rfl
              have hin : (j : Int) < (n : Int) := by omega
              exact plan_do (by rfl) (plan_yield (i := 2) (V := fun _ _ v => v = (.pointer (some ⟨g, off + j * 2, none⟩) : Value)) (.pointer (some ⟨g, off + j * 2, none⟩)) (by go_simp) rfl hK)
            · intro a w' K hs' hdep hfr hK
              have e19 : a.tmps[19]?.getD undef = (.pointer (some ⟨g, off + j * 2, none⟩)) := hdep 2 (by decide) 19 rfl
              exact plan_do (by rfl) (plan_yield (i := 3) (V := fun _ _ v => v = (.pointer (some ⟨g, off + j * 2, none⟩) : Value)) (.pointer (some ⟨g, off + j * 2, none⟩)) (by go_simp) rfl hK)
            · intro a w' K hs' hdep hfr hK
              have e20 : a.tmps[20]?.getD undef = (.pointer (some ⟨g, off + j * 2, none⟩)) := hdep 3 (by decide) 20 rfl
              have ca := HA.out _ (HS.out.trans hs' (fun _ _ e => e))
              have cl := ca.1
              exact plan_do (by rfl) (plan_yield (i := 4) (V := fun _ _ v => v = (kv1 : Value)) (kv1) (by go_simp) rfl hK)
            · intro a w' K hs' hdep hfr hK
              have e21 : a.tmps[21]?.getD undef = (kv1) := hdep 4 (by decide) 21 rfl
              have ca := HA.out _ (HS.out.trans hs' (fun _ _ e => e))
              have cl := ca.2.2.1
              exact plan_do (by rfl) (plan_yield (i := 5) (V := fun _ _ v => v = (.string ⟨k1.toArray⟩ : Value)) (.string ⟨k1.toArray⟩) (by go_simp) rfl hK)
            · intro a w' K hs' hdep hfr hK
              have f1 := hfr 1 (by decide)
              exact plan_do (by rfl) (plan_yield (i := 6) (V := fun _ _ v => v = (.slice (some ⟨g2, off2, none⟩) n bcap : Value)) (.slice (some ⟨g2, off2, none⟩) n bcap) (by go_simp) rfl hK)
            · intro a w' K hs' hdep hfr hK
              have f5 := hfr 5 (by decide)
              exact plan_do (by rfl) (plan_yield (i := 7) (V := fun _ _ v => v = (.int .i64 (j : Int) : Value)) (.int .i64 (j : Int)) (by go_simp) rfl hK)
            · intro a w' K hs' hdep hfr hK
              have e23 : a.tmps[23]?.getD undef = (.slice (some ⟨g2, off2, none⟩) n bcap) := hdep 6 (by decide) 23 rfl
              have e24 : a.tmps[24]?.getD undef = (.int .i64 (j : Int)) := hdep 7 (by decide) 24 rfl
              have hin : (j : Int) < (n : Int) := by omega
              exact plan_do (by rfl) (plan_yield (i := 8) (V := fun _ _ v => v = (.pointer (some ⟨g2, off2 + j * 2, none⟩) : Value)) (.pointer (some ⟨g2, off2 + j * 2, none⟩)) (by go_simp) rfl hK)
            · intro a w' K hs' hdep hfr hK
              have e25 : a.tmps[25]?.getD undef = (.pointer (some ⟨g2, off2 + j * 2, none⟩)) := hdep 8 (by decide) 25 rfl
              exact plan_do (by rfl) (plan_yield (i := 9) (V := fun _ _ v => v = (.pointer (some ⟨g2, off2 + j * 2, none⟩) : Value)) (.pointer (some ⟨g2, off2 + j * 2, none⟩)) (by go_simp) rfl hK)
            · intro a w' K hs' hdep hfr hK
              have e26 : a.tmps[26]?.getD undef = (.pointer (some ⟨g2, off2 + j * 2, none⟩)) := hdep 9 (by decide) 26 rfl
              have cb := HB.out _ (HS.out.trans hs' (fun _ _ e => e))
              have cl := cb.1
              exact plan_do (by rfl) (plan_yield (i := 10) (V := fun _ _ v => v = (kv2 : Value)) (kv2) (by go_simp) rfl hK)
            · intro a w' K hs' hdep hfr hK
              have e27 : a.tmps[27]?.getD undef = (kv2) := hdep 10 (by decide) 27 rfl
              have cb := HB.out _ (HS.out.trans hs' (fun _ _ e => e))
              have cl := cb.2.2.1
              exact plan_do (by rfl) (plan_yield (i := 11) (V := fun _ _ v => v = (.string ⟨k1.toArray⟩ : Value)) (.string ⟨k1.toArray⟩) (by go_simp) rfl hK)
            · intro a w' K hs' hdep hfr hK
              have e22 : a.tmps[22]?.getD undef = (.string ⟨k1.toArray⟩) := hdep 5 (by decide) 22 rfl
              have e28 : a.tmps[28]?.getD undef = (.string ⟨k1.toArray⟩) := hdep 11 (by decide) 28 rfl
              have z1 := str_list k1
              have z2 := str_list k1
              exact plan_do (by rfl) (plan_yield (i := 12) (V := fun _ _ v => v = (.bool false : Value)) (.bool false) (by go_simp) rfl hK)
            · intro a w' K hs' hdep hfr hK
              have e29 : a.tmps[29]?.getD undef = (.bool false) := hdep 12 (by decide) 29 rfl
              exact plan_do (by rfl) (plan_yield (i := 13) (V := fun _ _ v => v = (.bool false : Value)) (.bool false) (by go_simp) rfl hK)
            · intro a w' K hs' hdep hfr hK
              have e30 : a.tmps[30]?.getD undef = (.bool false) := hdep 13 (by decide) 30 rfl
              have f0 := hfr 0 (by decide)
              exact plan_do (wanted_of 13 30 false rfl rfl e30) (plan_yield (i := 14) (V := fun _ _ v => v = (.slice (some ⟨g, off, none⟩) n cap : Value)) (.slice (some ⟨g, off, none⟩) n cap) (by go_simp) rfl hK)
            · intro a w' K hs' hdep hfr hK
              have e30 : a.tmps[30]?.getD undef = (.bool false) := hdep 13 (by decide) 30 rfl
              have f5 := hfr 5 (by decide)
              exact plan_do (wanted_of 13 30 false rfl rfl e30) (plan_yield (i := 15) (V := fun _ _ v => v = (.int .i64 (j : Int) : Value)) (.int .i64 (j : Int)) (by go_simp) rfl hK)
            · intro a w' K hs' hdep hfr hK
              have e31 : a.tmps[31]?.getD undef = (.slice (some ⟨g, off, none⟩) n cap) := hdep 14 (by decide) 31 rfl
              have e32 : a.tmps[32]?.getD undef = (.int .i64 (j : Int)) := hdep 15 (by decide) 32 rfl
              have e30 : a.tmps[30]?.getD undef = (.bool false) := hdep 13 (by decide) 30 rfl
              have hin : (j : Int) < (n : Int) := by omega
              exact plan_do (wanted_of 13 30 false rfl rfl e30) (plan_yield (i := 16) (V := fun _ _ v => v = (.pointer (some ⟨g, off + j * 2, none⟩) : Value)) (.pointer (some ⟨g, off + j * 2, none⟩)) (by go_simp) rfl hK)
            · intro a w' K hs' hdep hfr hK
              have e33 : a.tmps[33]?.getD undef = (.pointer (some ⟨g, off + j * 2, none⟩)) := hdep 16 (by decide) 33 rfl
              have e30 : a.tmps[30]?.getD undef = (.bool false) := hdep 13 (by decide) 30 rfl
              exact plan_do (wanted_of 13 30 false rfl rfl e30) (plan_yield (i := 17) (V := fun _ _ v => v = (.pointer (some ⟨g, off + j * 2 + 1, none⟩) : Value)) (.pointer (some ⟨g, off + j * 2 + 1, none⟩)) (by go_simp) rfl hK)
            · intro a w' K hs' hdep hfr hK
              have e34 : a.tmps[34]?.getD undef = (.pointer (some ⟨g, off + j * 2 + 1, none⟩)) := hdep 17 (by decide) 34 rfl
              have e30 : a.tmps[30]?.getD undef = (.bool false) := hdep 13 (by decide) 30 rfl
              have ca := HA.out _ (HS.out.trans hs' (fun _ _ e => e))
              have cl := ca.2.1
              exact plan_do (wanted_of 13 30 false rfl rfl e30) (plan_yield (i := 18) (V := fun _ _ v => v = (vv1 : Value)) (vv1) (by go_simp) rfl hK)
            · intro a w' K hs' hdep hfr hK
              have e35 : a.tmps[35]?.getD undef = (vv1) := hdep 18 (by decide) 35 rfl
              have e30 : a.tmps[30]?.getD undef = (.bool false) := hdep 13 (by decide) 30 rfl
              have ca := HA.out _ (HS.out.trans hs' (fun _ _ e => e))
              have cl := ca.2.2.2
              exact plan_do (wanted_of 13 30 false rfl rfl e30) (plan_yield (i := 19) (V := fun _ _ v => v = (.string ⟨v1.toArray⟩ : Value)) (.string ⟨v1.toArray⟩) (by go_simp) rfl hK)
            · intro a w' K hs' hdep hfr hK
              have e30 : a.tmps[30]?.getD undef = (.bool false) := hdep 13 (by decide) 30 rfl
              have f1 := hfr 1 (by decide)
              exact plan_do (wanted_of 13 30 false rfl rfl e30) (plan_yield (i := 20) (V := fun _ _ v => v = (.slice (some ⟨g2, off2, none⟩) n bcap : Value)) (.slice (some ⟨g2, off2, none⟩) n bcap) (by go_simp) rfl hK)
            · intro a w' K hs' hdep hfr hK
              have e30 : a.tmps[30]?.getD undef = (.bool false) := hdep 13 (by decide) 30 rfl
              have f5 := hfr 5 (by decide)
              exact plan_do (wanted_of 13 30 false rfl rfl e30) (plan_yield (i := 21) (V := fun _ _ v => v = (.int .i64 (j : Int) : Value)) (.int .i64 (j : Int)) (by go_simp) rfl hK)
            · intro a w' K hs' hdep hfr hK
              have e37 : a.tmps[37]?.getD undef = (.slice (some ⟨g2, off2, none⟩) n bcap) := hdep 20 (by decide) 37 rfl
              have e38 : a.tmps[38]?.getD undef = (.int .i64 (j : Int)) := hdep 21 (by decide) 38 rfl
              have e30 : a.tmps[30]?.getD undef = (.bool false) := hdep 13 (by decide) 30 rfl
              have hin : (j : Int) < (n : Int) := by omega
              exact plan_do (wanted_of 13 30 false rfl rfl e30) (plan_yield (i := 22) (V := fun _ _ v => v = (.pointer (some ⟨g2, off2 + j * 2, none⟩) : Value)) (.pointer (some ⟨g2, off2 + j * 2, none⟩)) (by go_simp) rfl hK)
            · intro a w' K hs' hdep hfr hK
              have e39 : a.tmps[39]?.getD undef = (.pointer (some ⟨g2, off2 + j * 2, none⟩)) := hdep 22 (by decide) 39 rfl
              have e30 : a.tmps[30]?.getD undef = (.bool false) := hdep 13 (by decide) 30 rfl
              exact plan_do (wanted_of 13 30 false rfl rfl e30) (plan_yield (i := 23) (V := fun _ _ v => v = (.pointer (some ⟨g2, off2 + j * 2 + 1, none⟩) : Value)) (.pointer (some ⟨g2, off2 + j * 2 + 1, none⟩)) (by go_simp) rfl hK)
            · intro a w' K hs' hdep hfr hK
              have e40 : a.tmps[40]?.getD undef = (.pointer (some ⟨g2, off2 + j * 2 + 1, none⟩)) := hdep 23 (by decide) 40 rfl
              have e30 : a.tmps[30]?.getD undef = (.bool false) := hdep 13 (by decide) 30 rfl
              have cb := HB.out _ (HS.out.trans hs' (fun _ _ e => e))
              have cl := cb.2.1
              exact plan_do (wanted_of 13 30 false rfl rfl e30) (plan_yield (i := 24) (V := fun _ _ v => v = (vv2 : Value)) (vv2) (by go_simp) rfl hK)
            · intro a w' K hs' hdep hfr hK
              have e41 : a.tmps[41]?.getD undef = (vv2) := hdep 24 (by decide) 41 rfl
              have e30 : a.tmps[30]?.getD undef = (.bool false) := hdep 13 (by decide) 30 rfl
              have cb := HB.out _ (HS.out.trans hs' (fun _ _ e => e))
              have cl := cb.2.2.2
              exact plan_do (wanted_of 13 30 false rfl rfl e30) (plan_yield (i := 25) (V := fun _ _ v => v = (.string ⟨v2.toArray⟩ : Value)) (.string ⟨v2.toArray⟩) (by go_simp) rfl hK)
            · intro a w' K hs' hdep hfr hK
              have e36 : a.tmps[36]?.getD undef = (.string ⟨v1.toArray⟩) := hdep 19 (by decide) 36 rfl
              have e42 : a.tmps[42]?.getD undef = (.string ⟨v2.toArray⟩) := hdep 25 (by decide) 42 rfl
              have e30 : a.tmps[30]?.getD undef = (.bool false) := hdep 13 (by decide) 30 rfl
              have z1 := str_list v1
              have z2 := str_list v2
              have z3 := HD.out
              have z4 : (v1 == v2) = false := by simpa using z3
              exact plan_do (wanted_of 13 30 false rfl rfl e30) (plan_yield (i := 26) (V := fun _ _ v => v = (.bool true : Value)) (.bool true) (by go_simp) rfl hK)
            · intro a w' K hs' hdep hfr hK
              have e30 : a.tmps[30]?.getD undef = (.bool false) := hdep 13 (by decide) 30 rfl
              have e43 : a.tmps[43]?.getD undef = (.bool true) := hdep 26 (by decide) 43 rfl
              exact plan_do (by rfl) (plan_yield (i := 27) (V := fun _ _ v => v = (.bool true : Value)) (.bool true) (by go_simp) rfl hK)
          intro a wz hkz hdef hsz hv hfr
          have e44 : a.tmps[44]?.getD undef = (.bool true) := hv 27 44 rfl
          have he := act_eq a _ [some 17, some 18, some 19, some 20, some 21, some 22, some 23, some 24, some 25, some 26, some 27, some 28, some 29, some 30, some 31, some 32, some 33, some 34, some 35, some 36, some 37, some 38, some 39, some 40, some 41, some 42, some 43, some 44] 45 rfl hsz hdef hfr (fun d => a.tmps[d]?.getD undef) (fun _ _ => rfl)
          obtain ⟨v17, h17⟩ : ∃ v, a.tmps[17]?.getD undef = v := ⟨_, rfl⟩
          obtain ⟨v18, h18⟩ : ∃ v, a.tmps[18]?.getD undef = v := ⟨_, rfl⟩
          obtain ⟨v19, h19⟩ : ∃ v, a.tmps[19]?.getD undef = v := ⟨_, rfl⟩
          obtain ⟨v20, h20⟩ : ∃ v, a.tmps[20]?.getD undef = v := ⟨_, rfl⟩
          obtain ⟨v21, h21⟩ : ∃ v, a.tmps[21]?.getD undef = v := ⟨_, rfl⟩
          obtain ⟨v22, h22⟩ : ∃ v, a.tmps[22]?.getD undef = v := ⟨_, rfl⟩
          obtain ⟨v23, h23⟩ : ∃ v, a.tmps[23]?.getD undef = v := ⟨_, rfl⟩
          obtain ⟨v24, h24⟩ : ∃ v, a.tmps[24]?.getD undef = v := ⟨_, rfl⟩
          obtain ⟨v25, h25⟩ : ∃ v, a.tmps[25]?.getD undef = v := ⟨_, rfl⟩
          obtain ⟨v26, h26⟩ : ∃ v, a.tmps[26]?.getD undef = v := ⟨_, rfl⟩
          obtain ⟨v27, h27⟩ : ∃ v, a.tmps[27]?.getD undef = v := ⟨_, rfl⟩
          obtain ⟨v28, h28⟩ : ∃ v, a.tmps[28]?.getD undef = v := ⟨_, rfl⟩
          obtain ⟨v29, h29⟩ : ∃ v, a.tmps[29]?.getD undef = v := ⟨_, rfl⟩
          obtain ⟨v30, h30⟩ : ∃ v, a.tmps[30]?.getD undef = v := ⟨_, rfl⟩
          obtain ⟨v31, h31⟩ : ∃ v, a.tmps[31]?.getD undef = v := ⟨_, rfl⟩
          obtain ⟨v32, h32⟩ : ∃ v, a.tmps[32]?.getD undef = v := ⟨_, rfl⟩
          obtain ⟨v33, h33⟩ : ∃ v, a.tmps[33]?.getD undef = v := ⟨_, rfl⟩
          obtain ⟨v34, h34⟩ : ∃ v, a.tmps[34]?.getD undef = v := ⟨_, rfl⟩
          obtain ⟨v35, h35⟩ : ∃ v, a.tmps[35]?.getD undef = v := ⟨_, rfl⟩
          obtain ⟨v36, h36⟩ : ∃ v, a.tmps[36]?.getD undef = v := ⟨_, rfl⟩
          obtain ⟨v37, h37⟩ : ∃ v, a.tmps[37]?.getD undef = v := ⟨_, rfl⟩
          obtain ⟨v38, h38⟩ : ∃ v, a.tmps[38]?.getD undef = v := ⟨_, rfl⟩
          obtain ⟨v39, h39⟩ : ∃ v, a.tmps[39]?.getD undef = v := ⟨_, rfl⟩
          obtain ⟨v40, h40⟩ : ∃ v, a.tmps[40]?.getD undef = v := ⟨_, rfl⟩
          obtain ⟨v41, h41⟩ : ∃ v, a.tmps[41]?.getD undef = v := ⟨_, rfl⟩
          obtain ⟨v42, h42⟩ : ∃ v, a.tmps[42]?.getD undef = v := ⟨_, rfl⟩
          obtain ⟨v43, h43⟩ : ∃ v, a.tmps[43]?.getD undef = v := ⟨_, rfl⟩
          simp only [putAll, e44, h17, h18, h19, h20, h21, h22, h23, h24, h25, h26, h27, h28, h29, h30, h31, h32, h33, h34, h35, h36, h37, h38, h39, h40, h41, h42, h43, List.setIfInBounds_toArray, List.set_cons_zero, List.set_cons_succ] at he
          clear e44 h17 h18 h19 h20 h21 h22 h23 h24 h25 h26 h27 h28 h29 h30 h31 h32 h33 h34 h35 h36 h37 h38 h39 h40 h41 h42 h43 hdef hsz hv hfr
          subst he
          have HKZ := Lib.hid hkz
          clear hkz
          go_wp2
          go_ret
          exact BoolPost.no (HS.out.trans HKZ.out (fun _ _ e => e)) (ne_at HG.out.1 HG.out.2 (fun e => HD.out (Prod.mk.inj e).2))
      · have HD := Lib.hid hd
        clear hd
        go_wp2
        refine wp_region_do [[], [], [0, 1], [2], [3], [4], [], [], [6, 7], [8], [9], [10], [5, 11], [12], [13], [13], [14, 15, 13], [16, 13], [17, 13], [18, 13], [13], [13], [20, 21, 13], [22, 13], [23, 13], [24, 13], [19, 25, 13], [13, 26]]
          [some 17, some 18, some 19, some 20, some 21, some 22, some 23, some 24, some 25, some 26, some 27, some 28, some 29, some 30, some 31, some 32, some 33, some 34, some 35, some 36, some 37, some 38, some 39, some 40, some 41, some 42, some 43, some 44]
          [.is (.slice (some ⟨g, off, none⟩) n cap), .is (.int .i64 (j : Int)), .is (.pointer (some ⟨g, off + j * 2, none⟩)), .is (.pointer (some ⟨g, off + j * 2, none⟩)), .is (kv1), .is (.string ⟨k1.toArray⟩), .is (.slice (some ⟨g2, off2, none⟩) n bcap), .is (.int .i64 (j : Int)), .is (.pointer (some ⟨g2, off2 + j * 2, none⟩)), .is (.pointer (some ⟨g2, off2 + j * 2, none⟩)), .is (kv2), .is (.string ⟨k2.toArray⟩), .is (.bool true), .is (.bool true), .any, .any, .any, .any, .any, .any, .any, .any, .any, .any, .any, .any, .any, .is (.bool true)]
          6 _ _ 45 28 (by kernel_rfl) (by rfl) (by rfl) (by kernel_rfl) (by kernel_rfl) (by decide) ?_ ?_
        · refine ⟨?_, ?_, ?_, ?_, ?_, ?_, ?_, ?_, ?_, ?_, ?_, ?_, ?_, ?_, ?_, ?_, ?_, ?_, ?_, ?_, ?_, ?_, ?_, ?_, ?_, ?_, ?_, ?_, trivial⟩
          · intro a w' K hs' hdep hfr hK
            have f0 := hfr 0 (by decide)
            exact plan_do (by rfl) (plan_yield (i := 0) (V := fun _ _ v => v = (.slice (some ⟨g, off, none⟩) n cap : Value)) (.slice (some ⟨g, off, none⟩) n cap) (by go_simp) rfl hK)
          · intro a w' K hs' hdep hfr hK
            have f5 := hfr 5 (by decide)
            exact plan_do (by rfl) (plan_yield (i := 1) (V := fun _ _ v => v = (.int .i64 (j : Int) : Value)) (.int .i64 (j : Int)) (by go_simp) rfl hK)
          · intro a w' K hs' hdep hfr hK
            have e17 : a.tmps[17]?.getD undef = (.slice (some ⟨g, off, none⟩) n cap) := hdep 0 (by decide) 17 rfl
            have e18 : a.tmps[18]?.getD undef = (.int .i64 (j : Int)) := hdep 1 (by decide) 18 rfl
            have hin : (j : Int) < (n : Int) := by omega
            exact plan_do (by rfl) (plan_yield (i := 2) (V := fun _ _ v => v = (.pointer (some ⟨g, off + j * 2, none⟩) : Value)) (.pointer (some ⟨g, off + j * 2, none⟩)) (by go_simp) rfl hK)
          · intro a w' K hs' hdep hfr hK
            have e19 : a.tmps[19]?.getD undef = (.pointer (some ⟨g, off + j * 2, none⟩)) := hdep 2 (by decide) 19 rfl
            exact plan_do (by rfl) (plan_yield (i := 3) (V := fun _ _ v => v = (.pointer (some ⟨g, off + j * 2, none⟩) : Value)) (.pointer (some ⟨g, off + j * 2, none⟩)) (by go_simp) rfl hK)
          · intro a w' K hs' hdep hfr hK
            have e20 : a.tmps[20]?.getD undef = (.pointer (some ⟨g, off + j * 2, none⟩)) := hdep 3 (by decide) 20 rfl
            have ca := HA.out _ (HS.out.trans hs' (fun _ _ e => e))
            have cl := ca.1
            exact plan_do (by rfl) (plan_yield (i := 4) (V := fun _ _ v => v = (kv1 : Value)) (kv1) (by go_simp) rfl hK)
          · intro a w' K hs' hdep hfr hK
            have e21 : a.tmps[21]?.getD undef = (kv1) := hdep 4 (by decide) 21 rfl
            have ca := HA.out _ (HS.out.trans hs' (fun _ _ e => e))
            have cl := ca.2.2.1
            exact plan_do (by rfl) (plan_yield (i := 5) (V := fun _ _ v => v = (.string ⟨k1.toArray⟩ : Value)) (.string ⟨k1.toArray⟩) (by go_simp) rfl hK)
          · intro a w' K hs' hdep hfr hK
            have f1 := hfr 1 (by decide)
            exact plan_do (by rfl) (plan_yield (i := 6) (V := fun _ _ v => v = (.slice (some ⟨g2, off2, none⟩) n bcap : Value)) (.slice (some ⟨g2, off2, none⟩) n bcap) (by go_simp) rfl hK)
          · intro a w' K hs' hdep hfr hK
            have f5 := hfr 5 (by decide)
            exact plan_do (by rfl) (plan_yield (i := 7) (V := fun _ _ v => v = (.int .i64 (j : Int) : Value)) (.int .i64 (j : Int)) (by go_simp) rfl hK)
          · intro a w' K hs' hdep hfr hK
            have e23 : a.tmps[23]?.getD undef = (.slice (some ⟨g2, off2, none⟩) n bcap) := hdep 6 (by decide) 23 rfl
            have e24 : a.tmps[24]?.getD undef = (.int .i64 (j : Int)) := hdep 7 (by decide) 24 rfl
            have hin : (j : Int) < (n : Int) := by omega
            exact plan_do (by rfl) (plan_yield (i := 8) (V := fun _ _ v => v = (.pointer (some ⟨g2, off2 + j * 2, none⟩) : Value)) (.pointer (some ⟨g2, off2 + j * 2, none⟩)) (by go_simp) rfl hK)
          · intro a w' K hs' hdep hfr hK
            have e25 : a.tmps[25]?.getD undef = (.pointer (some ⟨g2, off2 + j * 2, none⟩)) := hdep 8 (by decide) 25 rfl
            exact plan_do (by rfl) (plan_yield (i := 9) (V := fun _ _ v => v = (.pointer (some ⟨g2, off2 + j * 2, none⟩) : Value)) (.pointer (some ⟨g2, off2 + j * 2, none⟩)) (by go_simp) rfl hK)
          · intro a w' K hs' hdep hfr hK
            have e26 : a.tmps[26]?.getD undef = (.pointer (some ⟨g2, off2 + j * 2, none⟩)) := hdep 9 (by decide) 26 rfl
            have cb := HB.out _ (HS.out.trans hs' (fun _ _ e => e))
            have cl := cb.1
            exact plan_do (by rfl) (plan_yield (i := 10) (V := fun _ _ v => v = (kv2 : Value)) (kv2) (by go_simp) rfl hK)
          · intro a w' K hs' hdep hfr hK
            have e27 : a.tmps[27]?.getD undef = (kv2) := hdep 10 (by decide) 27 rfl
            have cb := HB.out _ (HS.out.trans hs' (fun _ _ e => e))
            have cl := cb.2.2.1
            exact plan_do (by rfl) (plan_yield (i := 11) (V := fun _ _ v => v = (.string ⟨k2.toArray⟩ : Value)) (.string ⟨k2.toArray⟩) (by go_simp) rfl hK)
          · intro a w' K hs' hdep hfr hK
            have e22 : a.tmps[22]?.getD undef = (.string ⟨k1.toArray⟩) := hdep 5 (by decide) 22 rfl
            have e28 : a.tmps[28]?.getD undef = (.string ⟨k2.toArray⟩) := hdep 11 (by decide) 28 rfl
            have z1 := str_list k1
            have z2 := str_list k2
            have z3 := HD.out
            have z4 : (k1 == k2) = false := by simpa using z3
            exact plan_do (by rfl) (plan_yield (i := 12) (V := fun _ _ v => v = (.bool true : Value)) (.bool true) (by go_simp) rfl hK)
          · intro a w' K hs' hdep hfr hK
            have e29 : a.tmps[29]?.getD undef = (.bool true) := hdep 12 (by decide) 29 rfl
            exact plan_do (by rfl) (plan_yield (i := 13) (V := fun _ _ v => v = (.bool true : Value)) (.bool true) (by go_simp) rfl hK)
          · intro a w' K hs' hdep hfr hK
            have e30 : a.tmps[30]?.getD undef = (.bool true) := hdep 13 (by decide) 30 rfl
            have f0 := hfr 0 (by decide)
            exact plan_skip (unwanted_by 13 30 false rfl rfl e30) (hK _ _ (Keeps.refl _ _) trivial)
          · intro a w' K hs' hdep hfr hK
            have e30 : a.tmps[30]?.getD undef = (.bool true) := hdep 13 (by decide) 30 rfl
            have f5 := hfr 5 (by decide)
            exact plan_skip (unwanted_by 13 30 false rfl rfl e30) (hK _ _ (Keeps.refl _ _) trivial)
          · intro a w' K hs' hdep hfr hK
            have e30 : a.tmps[30]?.getD undef = (.bool true) := hdep 13 (by decide) 30 rfl
            have hin : (j : Int) < (n : Int) := by omega
            exact plan_skip (unwanted_by 13 30 false rfl rfl e30) (hK _ _ (Keeps.refl _ _) trivial)
          · intro a w' K hs' hdep hfr hK
            have e30 : a.tmps[30]?.getD undef = (.bool true) := hdep 13 (by decide) 30 rfl
            exact plan_skip (unwanted_by 13 30 false rfl rfl e30) (hK _ _ (Keeps.refl _ _) trivial)
          · intro a w' K hs' hdep hfr hK
            have e30 : a.tmps[30]?.getD undef = (.bool true) := hdep 13 (by decide) 30 rfl
            have ca := HA.out _ (HS.out.trans hs' (fun _ _ e => e))
            have cl := ca.2.1
            exact plan_skip (unwanted_by 13 30 false rfl rfl e30) (hK _ _ (Keeps.refl _ _) trivial)
          · intro a w' K hs' hdep hfr hK
            have e30 : a.tmps[30]?.getD undef = (.bool true) := hdep 13 (by decide) 30 rfl
            have ca := HA.out _ (HS.out.trans hs' (fun _ _ e => e))
            have cl := ca.2.2.2
            exact plan_skip (unwanted_by 13 30 false rfl rfl e30) (hK _ _ (Keeps.refl _ _) trivial)
          · intro a w' K hs' hdep hfr hK
            have e30 : a.tmps[30]?.getD undef = (.bool true) := hdep 13 (by decide) 30 rfl
            have f1 := hfr 1 (by decide)
            exact plan_skip (unwanted_by 13 30 false rfl rfl e30) (hK _ _ (Keeps.refl _ _) trivial)
          · intro a w' K hs' hdep hfr hK
            have e30 : a.tmps[30]?.getD undef = (.bool true) := hdep 13 (by decide) 30 rfl
            have f5 := hfr 5 (by decide)
            exact plan_skip (unwanted_by 13 30 false rfl rfl e30) (hK _ _ (Keeps.refl _ _) trivial)
          · intro a w' K hs' hdep hfr hK
            have e30 : a.tmps[30]?.getD undef = (.bool true) := hdep 13 (by decide) 30 rfl
            have hin : (j : Int) < (n : Int) := by omega
            exact plan_skip (unwanted_by 13 30 false rfl rfl e30) (hK _ _ (Keeps.refl _ _) trivial)
          · intro a w' K hs' hdep hfr hK
            have e30 : a.tmps[30]?.getD undef = (.bool true) := hdep 13 (by decide) 30 rfl
            exact plan_skip (unwanted_by 13 30 false rfl rfl e30) (hK _ _ (Keeps.refl _ _) trivial)
          · intro a w' K hs' hdep hfr hK
            have e30 : a.tmps[30]?.getD undef = (.bool true) := hdep 13 (by decide) 30 rfl
            have cb := HB.out _ (HS.out.trans hs' (fun _ _ e => e))
            have cl := cb.2.1
            exact plan_skip (unwanted_by 13 30 false rfl rfl e30) (hK _ _ (Keeps.refl _ _) trivial)
          · intro a w' K hs' hdep hfr hK
            have e30 : a.tmps[30]?.getD undef = (.bool true) := hdep 13 (by decide) 30 rfl
            have cb := HB.out _ (HS.out.trans hs' (fun _ _ e => e))
            have cl := cb.2.2.2
            exact plan_skip (unwanted_by 13 30 false rfl rfl e30) (hK _ _ (Keeps.refl _ _) trivial)
          · intro a w' K hs' hdep hfr hK
            have e30 : a.tmps[30]?.getD undef = (.bool true) := hdep 13 (by decide) 30 rfl
            have z1 := str_list v1
            have z2 := str_list v1
            exact plan_skip (unwanted_by 13 30 false rfl rfl e30) (hK _ _ (Keeps.refl _ _) trivial)
          · intro a w' K hs' hdep hfr hK
            have e30 : a.tmps[30]?.getD undef = (.bool true) := hdep 13 (by decide) 30 rfl
            exact plan_do (by rfl) (plan_yield (i := 27) (V := fun _ _ v => v = (.bool true : Value)) (.bool true) (by go_simp) rfl hK)
        intro a wz hkz hdef hsz hv hfr
        have e44 : a.tmps[44]?.getD undef = (.bool true) := hv 27 44 rfl
        have he := act_eq a _ [some 17, some 18, some 19, some 20, some 21, some 22, some 23, some 24, some 25, some 26, some 27, some 28, some 29, some 30, some 31, some 32, some 33, some 34, some 35, some 36, some 37, some 38, some 39, some 40, some 41, some 42, some 43, some 44] 45 rfl hsz hdef hfr (fun d => a.tmps[d]?.getD undef) (fun _ _ => rfl)
        obtain ⟨v17, h17⟩ : ∃ v, a.tmps[17]?.getD undef = v := ⟨_, rfl⟩
        obtain ⟨v18, h18⟩ : ∃ v, a.tmps[18]?.getD undef = v := ⟨_, rfl⟩
        obtain ⟨v19, h19⟩ : ∃ v, a.tmps[19]?.getD undef = v := ⟨_, rfl⟩
        obtain ⟨v20, h20⟩ : ∃ v, a.tmps[20]?.getD undef = v := ⟨_, rfl⟩
        obtain ⟨v21, h21⟩ : ∃ v, a.tmps[21]?.getD undef = v := ⟨_, rfl⟩
        obtain ⟨v22, h22⟩ : ∃ v, a.tmps[22]?.getD undef = v := ⟨_, rfl⟩
        obtain ⟨v23, h23⟩ : ∃ v, a.tmps[23]?.getD undef = v := ⟨_, rfl⟩
        obtain ⟨v24, h24⟩ : ∃ v, a.tmps[24]?.getD undef = v := ⟨_, rfl⟩
        obtain ⟨v25, h25⟩ : ∃ v, a.tmps[25]?.getD undef = v := ⟨_, rfl⟩
        obtain ⟨v26, h26⟩ : ∃ v, a.tmps[26]?.getD undef = v := ⟨_, rfl⟩
        obtain ⟨v27, h27⟩ : ∃ v, a.tmps[27]?.getD undef = v := ⟨_, rfl⟩
        obtain ⟨v28, h28⟩ : ∃ v, a.tmps[28]?.getD undef = v := ⟨_, rfl⟩
        obtain ⟨v29, h29⟩ : ∃ v, a.tmps[29]?.getD undef = v := ⟨_, rfl⟩
        obtain ⟨v30, h30⟩ : ∃ v, a.tmps[30]?.getD undef = v := ⟨_, rfl⟩
        obtain ⟨v31, h31⟩ : ∃ v, a.tmps[31]?.getD undef = v := ⟨_, rfl⟩
        obtain ⟨v32, h32⟩ : ∃ v, a.tmps[32]?.getD undef = v := ⟨_, rfl⟩
        obtain ⟨v33, h33⟩ : ∃ v, a.tmps[33]?.getD undef = v := ⟨_, rfl⟩
        obtain ⟨v34, h34⟩ : ∃ v, a.tmps[34]?.getD undef = v := ⟨_, rfl⟩
        obtain ⟨v35, h35⟩ : ∃ v, a.tmps[35]?.getD undef = v := ⟨_, rfl⟩
        obtain ⟨v36, h36⟩ : ∃ v, a.tmps[36]?.getD undef = v := ⟨_, rfl⟩
        obtain ⟨v37, h37⟩ : ∃ v, a.tmps[37]?.getD undef = v := ⟨_, rfl⟩
        obtain ⟨v38, h38⟩ : ∃ v, a.tmps[38]?.getD undef = v := ⟨_, rfl⟩
        obtain ⟨v39, h39⟩ : ∃ v, a.tmps[39]?.getD undef = v := ⟨_, rfl⟩
        obtain ⟨v40, h40⟩ : ∃ v, a.tmps[40]?.getD undef = v := ⟨_, rfl⟩
        obtain ⟨v41, h41⟩ : ∃ v, a.tmps[41]?.getD undef = v := ⟨_, rfl⟩
        obtain ⟨v42, h42⟩ : ∃ v, a.tmps[42]?.getD undef = v := ⟨_, rfl⟩
        obtain ⟨v43, h43⟩ : ∃ v, a.tmps[43]?.getD undef = v := ⟨_, rfl⟩
        simp only [putAll, e44, h17, h18, h19, h20, h21, h22, h23, h24, h25, h26, h27, h28, h29, h30, h31, h32, h33, h34, h35, h36, h37, h38, h39, h40, h41, h42, h43, List.setIfInBounds_toArray, List.set_cons_zero, List.set_cons_succ] at he
        clear e44 h17 h18 h19 h20 h21 h22 h23 h24 h25 h26 h27 h28 h29 h30 h31 h32 h33 h34 h35 h36 h37 h38 h39 h40 h41 h42 h43 hdef hsz hv hfr
        subst he
        have HKZ := Lib.hid hkz
        clear hkz
        go_wp2
        go_ret
        exact BoolPost.no (HS.out.trans HKZ.out (fun _ _ e => e)) (ne_at HG.out.1 HG.out.2 (fun e => HD.out (Prod.mk.inj e).1))
    · obtain rfl : j = n := by omega
      go_wp2
      go_ret
      refine BoolPost.yes HS.out ?_
      have := HT.out
      rwa [List.take_of_length_le (by rw [kvs_length, HN.out]; exact Nat.le_refl _), List.take_of_length_le (by rw [kvs_length, HM.out]; exact Nat.le_refl _)] at this
theorem samePairs_any (ao bo : Option Addr) (n m cap bcap : Nat) (ps qs : List PairX) (w : World) (hp : Pairs w ao ps) (hq : Pairs w bo qs) (hn : ps.length = n) (hm : qs.length = m) (hl : n ≤ 1000000) :
    Calls Try.prog 24 #[.slice ao n cap, .slice bo m bcap] w (BoolPost w (kvs ps = kvs qs)) := by
  by_cases h : n = m
  · subst h; exact samePairs_eq ao bo n cap bcap ps qs w hp hq hn hm hl
  · exact samePairs_len ao bo n m cap bcap ps qs w hn hm h
end Go.Proofs.Ytdeajjppmgfemaa
