/- Which nodes are right: node.right, the document's Rising and Right. -/
import Derived.Test.YtdeajjppmgfemaaNd2
import Derived.WalkLawsBesides
namespace Go.Proofs.Ytdeajjppmgfemaa
open Go.RowKit
set_option linter.unusedVariables false

theorem bytes_str {w : World} {x : Value} {b : List UInt8} (h : Bytes w x b) (hs : ∀ a n c, x = .slice (some a) n c → b ≠ [] → a.spot = none) : (convert 29 9 x).run Try.prog w = .ok (.string ⟨b.toArray⟩) w := by
  obtain ⟨ao, c, rfl⟩ := h.form
  exact run_string' h (fun a e h0 => hs a _ _ (by rw [e]) h0) _ _ _ Try.underlying29 Try.underlying5 Try.underlying9
theorem str_list (b : List UInt8) : (⟨b.toArray⟩ : ByteArray).toList = b := by rw [toList_sb, sb_mk]

abbrev nodeV (lv : Int) (po : Option Addr) (pn pc : Nat) (ko : Option Addr) (kn kc : Nat) : Value := .agg #[.int .i64 lv, .slice po pn pc, .slice ko kn kc]
structure NodeAt (w : World) (po ko : Option Addr) (ps : List PairX) (ks : List KidX) (pc kc : Nat) : Prop where
  pairs : Pairs w po ps
  kids : Kids w ko ks
  hp : ps.length ≤ pc
  hk : ks.length ≤ kc
theorem NodeAt.same {w w' : World} {po ko : Option Addr} {ps : List PairX} {ks : List KidX} {pc kc : Nat} (h : NodeAt w po ko ps ks pc kc) (k : Same w w') : NodeAt w' po ko ps ks pc kc := ⟨h.pairs.same k, h.kids.same k, h.hp, h.hk⟩
theorem kvs_keys (ps : List PairX) : (kvs ps).map (·.1) = ps.map (fun p => p.ks) := by simp [kvs]
theorem kks_keys (ks : List KidX) : (kks ks).map (·.1) = ks.map (fun p => p.fs) := by simp [kks]
theorem len_eq_nil {α : Type} {l : List α} : l.length = 0 ↔ l = [] := List.length_eq_zero_iff
theorem Try.sizeNode : (Try.prog.info? 25).map (fun i => i.size) = some 3 := by kernel_rfl

set_option maxRecDepth 100000 in
set_option maxHeartbeats 1600000 in
theorem keys_any (ao : Option Addr) (cap N : Nat) (ps : List PairX) (w : World) (hr : Pairs w ao ps) (hN : ps.length = N) (hcap : N ≤ cap) (hl : N ≤ 1000000) :
    Calls Try.prog 31 #[.slice ao N cap] w (BoolPost w (Rises (ps.map (fun p => p.ks)))) := by
  have HR := Lib.hid hr
  have HN := Lib.hid hN
  clear hr hN
  go_enter Try.func31, Try.ntmps31
  go_wp2_with fail
  ((with_reducible refine (risePair_any ao cap N ps w HR.out HN.out hcap hl).mono ?_); rintro e w' ⟨b, rfl, hk, hb⟩)
  have HK := Lib.hid hk
  have HB := Lib.hid hb
  clear hk hb
  go_wp2
  go_ret
  exact ⟨b, rfl, HK.out, HB.out⟩


set_option maxRecDepth 100000 in
set_option maxHeartbeats 6400000 in
theorem nright_any (lv : Int) (po ko : Option Addr) (pn pc kn kc : Nat) (ps : List PairX) (ks : List KidX) (w : World) (h : NodeAt w po ko ps ks pc kc) (hp : ps.length = pn) (hk : ks.length = kn) (hpl : pn ≤ 1000000) (hkl : kn ≤ 1000000) :
    Calls Try.prog 17 #[nodeV lv po pn pc ko kn kc] w (BoolPost w (NRight lv (kvs ps) (kks ks))) := by
  have hB : Whole (w.alloc (.cells #[.int .i64 lv, .slice po pn pc, .slice ko kn kc] 25)) w.heap.size 25 [.int .i64 lv, .slice po pn pc, .slice ko kn kc] := heap_alloc_new w _
  have hs0 : Same w (w.alloc (.cells #[.int .i64 lv, .slice po pn pc, .slice ko kn kc] 25)) := (Keeps.refl _ _).alloc _
  have HB := Lib.hid hB
  have HS0 := Lib.hid hs0
  have HPL : Hid (ps.length = pn) := Lib.hid hp
  have HKL : Hid (ks.length = kn) := Lib.hid hk
  have hcp : pn ≤ pc := by rw [← hp]; exact h.hp
  have hck : kn ≤ kc := by rw [← hk]; exact h.hk
  have HH := Lib.hid h
  have HE : Hid (∀ q : Prop, (NRight lv (kvs ps) (kks ks) ↔ q) → (NRight lv (kvs ps) (kks ks) ↔ q)) := Lib.hid fun _ h => h
  clear hp hk h hB hs0
  by_cases h1 : lv < 0
  · have hno : ¬ NRight lv (kvs ps) (kks ks) := fun e => by have := e.1; omega
    have HNO := Lib.hid hno
    clear hno
    go_enter Try.func17, Try.ntmps17
    go_wp2
    go_ret
    exact BoolPost.no HS0.out HNO.out
  by_cases h2 : 15 < lv
  · have hno : ¬ NRight lv (kvs ps) (kks ks) := fun e => by have := e.1; omega
    have HNO := Lib.hid hno
    clear hno
    go_enter Try.func17, Try.ntmps17
    go_wp2
    go_ret
    exact BoolPost.no HS0.out HNO.out
  by_cases h0 : lv = 0
  · subst h0
    by_cases h3 : kn = 0
    · by_cases h4 : pn ≤ 255
      · have hyes : NRight 0 (kvs ps) (kks ks) ↔ Rises (ps.map (fun p => p.ks)) := by
          have e1 : kks ks = [] := len_eq_nil.1 (by rw [kks_length, HKL.out, h3])
          refine ⟨fun e => ?_, fun e => ⟨by omega, fun _ => ⟨e1, by rw [kvs_length, HPL.out]; exact h4, by rw [kvs_keys]; exact e⟩, fun e => absurd rfl e⟩⟩
          have := (e.2.1 rfl).2.2
          rwa [kvs_keys] at this
        have HY := Lib.hid hyes
        subst h3
        have g4 : ((pn : Int) < 256) ∧ ((pn : Int) ≤ 255) := by omega
        clear hyes
        go_enter Try.func17, Try.ntmps17
        go_wp2_with fail
        ((with_reducible refine (keys_any po pc pn ps _ (HH.out.pairs.same HS0.out) HPL.out hcp hpl).mono ?_); rintro e w' ⟨b, rfl, hk, hb⟩)
        have HK := Lib.hid (HS0.out.trans hk (fun _ _ e => e))
        have HB2 := Lib.hid (hb.trans HY.out.symm)
        clear hk hb
        go_wp2
        go_ret
        exact ⟨b, rfl, HK.out, HB2.out⟩
      · have hno : ¬ NRight 0 (kvs ps) (kks ks) := fun e => by
          have := (e.2.1 rfl).2.1
          rw [kvs_length, HPL.out] at this
          exact h4 this
        have HNO := Lib.hid hno
        subst h3
        have g4 : ¬ ((pn : Int) < 256) ∧ ¬ ((pn : Int) ≤ 255) := by omega
        clear hno
        go_enter Try.func17, Try.ntmps17
        go_wp2
        go_ret
        exact BoolPost.no HS0.out HNO.out
    · have hno : ¬ NRight 0 (kvs ps) (kks ks) := fun e => by
        have := (e.2.1 rfl).1
        have h5 : ks.length = 0 := by rw [← kks_length, this]; rfl
        rw [HKL.out] at h5
        exact h3 h5
      have HNO := Lib.hid hno
      have g3 : ((kn : Int) == 0) = false := by simpa using h3
      clear hno
      go_enter Try.func17, Try.ntmps17
      go_wp2
      go_ret
      exact BoolPost.no HS0.out HNO.out
  have g0 : (lv == 0) = false := by simpa using h0
  by_cases h3 : pn = 0
  · subst h3
    by_cases h4 : kn = 0
    · subst h4
      have hno : ¬ NRight lv (kvs ps) (kks ks) := fun e => by
        have := (e.2.2 h0).2.1
        rw [kks_length, HKL.out] at this
        omega
      have HNO := Lib.hid hno
      clear hno
      go_enter Try.func17, Try.ntmps17
      go_wp2
      go_ret
      exact BoolPost.no HS0.out HNO.out
    by_cases h5 : 4 < kn
    · have hno : ¬ NRight lv (kvs ps) (kks ks) := fun e => by
        have := (e.2.2 h0).2.1
        rw [kks_length, HKL.out] at this
        omega
      have HNO := Lib.hid hno
      have g4 : 1 ≤ (kn : Int) ∧ ¬ ((kn : Int) ≤ 4) := by omega
      clear hno
      go_enter Try.func17, Try.ntmps17
      go_wp2
      go_ret
      exact BoolPost.no HS0.out HNO.out
    have hyes : NRight lv (kvs ps) (kks ks) ↔ Rises (ks.map (fun p => p.fs)) := by
      have e1 : kvs ps = [] := len_eq_nil.1 (by rw [kvs_length, HPL.out])
      refine ⟨fun e => ?_, fun e => ⟨by omega, fun e2 => absurd e2 h0, fun _ => ⟨e1, by rw [kks_length, HKL.out]; omega, by rw [kks_keys]; exact e⟩⟩⟩
      have := (e.2.2 h0).2.2
      rwa [kks_keys] at this
    have HY := Lib.hid hyes
    have g4 : 1 ≤ (kn : Int) ∧ (kn : Int) ≤ 4 := by omega
    clear hyes
    go_enter Try.func17, Try.ntmps17
    go_wp2_with fail
    ((with_reducible refine (riseKid_any ko kc kn ks _ (HH.out.kids.same HS0.out) HKL.out hck hkl).mono ?_); rintro e w' ⟨b, rfl, hk, hb⟩)
    have HK := Lib.hid (HS0.out.trans hk (fun _ _ e => e))
    have HB2 := Lib.hid (hb.trans HY.out.symm)
    clear hk hb
    go_wp2
    go_ret
    exact ⟨b, rfl, HK.out, HB2.out⟩
  · have hno : ¬ NRight lv (kvs ps) (kks ks) := fun e => by
      have := (e.2.2 h0).1
      have h5 : ps.length = 0 := by rw [← kvs_length, this]; rfl
      rw [HPL.out] at h5
      exact h3 h5
    have HNO := Lib.hid hno
    have g3 : ((pn : Int) == 0) = false := by simpa using h3
    have g4 : 0 < (pn : Int) := by omega
    clear hno
    go_enter Try.func17, Try.ntmps17
    go_wp2
    go_ret
    exact BoolPost.no HS0.out HNO.out

set_option maxRecDepth 100000 in
set_option maxHeartbeats 6400000 in
theorem rising_any (ao : Option Addr) (cap N : Nat) (ps : List PairX) (w : World) (hr : Pairs w ao ps) (hN : ps.length = N) (hcap : N ≤ cap) (hl : N ≤ 1000000) :
    Calls Try.prog 35 #[.slice ao N cap] w (BoolPost w (Rises (ps.map (fun p => p.ks)))) := by
  have HR := Lib.hid hr
  have HN := Lib.hid hN
  clear hr hN
  refine show Calls _ _ _ _ _ from ?_
  · go_enter Try.func35, Try.ntmps35
    go_wp2
    go_loopw [3] (fun i wr => ∃ j : Nat, j ≤ N ∧ i = .int .i64 ((j : Int) + 1) ∧ RisesTo (ps.map (fun p => p.ks)) (j + 1) ∧ Same w wr) (fun i _ => N + 1 - (intOf i).toNat)
    case atStart => exact ⟨0, by omega, rfl, RisesTo.one _, Keeps.refl _ _⟩
    case round =>
      obtain ⟨j, hj, rfl, hris, hs⟩ := hrel
      have HRI := Lib.hid hris
      have HS := Lib.hid hs
      clear hris hs
      by_cases hlt : j + 1 < N
      · have hjl : j < ps.length ∧ j + 1 < ps.length := by have := HN.out; omega
        obtain ⟨g, off, rfl, hall⟩ : ∃ g off, ao = some ⟨g, off, none⟩ ∧ ∀ j (h : j < ps.length), PairAt w g (off + j * 2) ps[j] := by
          rcases HR.out with h | h
          · rw [h] at hjl; simp at hjl
          · exact h
        have HP := Lib.hid ((hall j hjl.1).same HS.out)
        have HQ := Lib.hid ((hall (j + 1) hjl.2).same HS.out)
        have HK1 : Hid ((ps.map (fun p => p.ks))[j]? = some ps[j].ks ∧ (ps.map (fun p => p.ks))[j + 1]? = some ps[j + 1].ks) := Lib.hid (by simp [hjl.1, hjl.2])
        generalize ps[j] = p at HP HK1
        generalize ps[j + 1] = q at HQ HK1
        have hlt2 : (j : Int) + 1 < (N : Int) := by omega
        clear hall hjl
        go_wp2
        refine wp_region_do [[], [], [1], [0, 2], [3], [4], [5], [], [], [7, 8], [9], [10], [11], [6, 12]]
          [some 10, some 11, some 12, some 13, some 14, some 15, some 16, some 17, some 18, some 19, some 20, some 21, some 22, some 23]
          [.is (.slice (some ⟨g, off, none⟩) N cap), .is (.int .i64 ((j : Int) + 1)), .is (.int .i64 (j : Int)), .is (.pointer (some ⟨g, off + j * 2, none⟩)), .is (.pointer (some ⟨g, off + j * 2, none⟩)), .is (p.kv), .is (.string ⟨p.ks.toArray⟩), .is (.slice (some ⟨g, off, none⟩) N cap), .is (.int .i64 ((j : Int) + 1)), .is (.pointer (some ⟨g, off + (j + 1) * 2, none⟩)), .is (.pointer (some ⟨g, off + (j + 1) * 2, none⟩)), .is (q.kv), .is (.string ⟨q.ks.toArray⟩), .is (.bool (!(Op.bytesLess p.ks q.ks)))]
          4 _ _ 24 14 (by kernel_rfl) (by rfl) (by rfl) (by kernel_rfl) (by kernel_rfl) (by decide) ?_ ?_
        · refine ⟨?_, ?_, ?_, ?_, ?_, ?_, ?_, ?_, ?_, ?_, ?_, ?_, ?_, ?_, trivial⟩
          · intro a w' K hs' hdep hfr hK
            have f0 := hfr 0 (by decide)
            exact plan_do (by rfl) (plan_yield (i := 0) (V := fun _ _ v => v = (.slice (some ⟨g, off, none⟩) N cap : Value)) (.slice (some ⟨g, off, none⟩) N cap) (by go_simp) rfl hK)
          · intro a w' K hs' hdep hfr hK
            have f3 := hfr 3 (by decide)
            exact plan_do (by rfl) (plan_yield (i := 1) (V := fun _ _ v => v = (.int .i64 ((j : Int) + 1) : Value)) (.int .i64 ((j : Int) + 1)) (by go_simp) rfl hK)
          · intro a w' K hs' hdep hfr hK
            have e11 : a.tmps[11]?.getD undef = (.int .i64 ((j : Int) + 1)) := hdep 1 (by decide) 11 rfl
            have ex : (j : Int) + 1 - 1 = (j : Int) := by omega
            have wj : IntKind.i64.wrap (j : Int) = (j : Int) := IntWalk.i64_in _ (by omega)
            exact plan_do (by rfl) (plan_yield (i := 2) (V := fun _ _ v => v = (.int .i64 (j : Int) : Value)) (.int .i64 (j : Int)) (by go_simp) rfl hK)
          · intro a w' K hs' hdep hfr hK
            have e10 : a.tmps[10]?.getD undef = (.slice (some ⟨g, off, none⟩) N cap) := hdep 0 (by decide) 10 rfl
            have e12 : a.tmps[12]?.getD undef = (.int .i64 (j : Int)) := hdep 2 (by decide) 12 rfl
            have hin : (j : Int) < (N : Int) := by omega
            exact plan_do (by rfl) (plan_yield (i := 3) (V := fun _ _ v => v = (.pointer (some ⟨g, off + j * 2, none⟩) : Value)) (.pointer (some ⟨g, off + j * 2, none⟩)) (by go_simp) rfl hK)
          · intro a w' K hs' hdep hfr hK
            have e13 : a.tmps[13]?.getD undef = (.pointer (some ⟨g, off + j * 2, none⟩)) := hdep 3 (by decide) 13 rfl
            exact plan_do (by rfl) (plan_yield (i := 4) (V := fun _ _ v => v = (.pointer (some ⟨g, off + j * 2, none⟩) : Value)) (.pointer (some ⟨g, off + j * 2, none⟩)) (by go_simp) rfl hK)
          · intro a w' K hs' hdep hfr hK
            have e14 : a.tmps[14]?.getD undef = (.pointer (some ⟨g, off + j * 2, none⟩)) := hdep 4 (by decide) 14 rfl
            have cl := (HP.out.same hs').c0
            exact plan_do (by rfl) (plan_yield (i := 5) (V := fun _ _ v => v = (p.kv : Value)) (p.kv) (by go_simp) rfl hK)
          · intro a w' K hs' hdep hfr hK
            have e15 : a.tmps[15]?.getD undef = (p.kv) := hdep 5 (by decide) 15 rfl
            have kc := bytes_str (HP.out.same hs').bk (HP.out.same hs').sk
            exact plan_do (by rfl) (plan_yield (i := 6) (V := fun _ _ v => v = (.string ⟨p.ks.toArray⟩ : Value)) (.string ⟨p.ks.toArray⟩) (by go_simp) rfl hK)
          · intro a w' K hs' hdep hfr hK
            have f0 := hfr 0 (by decide)
            exact plan_do (by rfl) (plan_yield (i := 7) (V := fun _ _ v => v = (.slice (some ⟨g, off, none⟩) N cap : Value)) (.slice (some ⟨g, off, none⟩) N cap) (by go_simp) rfl hK)
          · intro a w' K hs' hdep hfr hK
            have f3 := hfr 3 (by decide)
            exact plan_do (by rfl) (plan_yield (i := 8) (V := fun _ _ v => v = (.int .i64 ((j : Int) + 1) : Value)) (.int .i64 ((j : Int) + 1)) (by go_simp) rfl hK)
          · intro a w' K hs' hdep hfr hK
            have e17 : a.tmps[17]?.getD undef = (.slice (some ⟨g, off, none⟩) N cap) := hdep 7 (by decide) 17 rfl
            have e18 : a.tmps[18]?.getD undef = (.int .i64 ((j : Int) + 1)) := hdep 8 (by decide) 18 rfl
            have hin : (j : Int) + 1 < (N : Int) := by omega
            have hnn : ¬ ((j : Int) + 1 < 0) := by omega
            exact plan_do (by rfl) (plan_yield (i := 9) (V := fun _ _ v => v = (.pointer (some ⟨g, off + (j + 1) * 2, none⟩) : Value)) (.pointer (some ⟨g, off + (j + 1) * 2, none⟩)) (by go_simp) rfl hK)
          · intro a w' K hs' hdep hfr hK
            have e19 : a.tmps[19]?.getD undef = (.pointer (some ⟨g, off + (j + 1) * 2, none⟩)) := hdep 9 (by decide) 19 rfl
            exact plan_do (by rfl) (plan_yield (i := 10) (V := fun _ _ v => v = (.pointer (some ⟨g, off + (j + 1) * 2, none⟩) : Value)) (.pointer (some ⟨g, off + (j + 1) * 2, none⟩)) (by go_simp) rfl hK)
          · intro a w' K hs' hdep hfr hK
            have e20 : a.tmps[20]?.getD undef = (.pointer (some ⟨g, off + (j + 1) * 2, none⟩)) := hdep 10 (by decide) 20 rfl
            have cl := (HQ.out.same hs').c0
            exact plan_do (by rfl) (plan_yield (i := 11) (V := fun _ _ v => v = (q.kv : Value)) (q.kv) (by go_simp) rfl hK)
          · intro a w' K hs' hdep hfr hK
            have e21 : a.tmps[21]?.getD undef = (q.kv) := hdep 11 (by decide) 21 rfl
            have kc := bytes_str (HQ.out.same hs').bk (HQ.out.same hs').sk
            exact plan_do (by rfl) (plan_yield (i := 12) (V := fun _ _ v => v = (.string ⟨q.ks.toArray⟩ : Value)) (.string ⟨q.ks.toArray⟩) (by go_simp) rfl hK)
          · intro a w' K hs' hdep hfr hK
            have e16 : a.tmps[16]?.getD undef = (.string ⟨p.ks.toArray⟩) := hdep 6 (by decide) 16 rfl
            have e22 : a.tmps[22]?.getD undef = (.string ⟨q.ks.toArray⟩) := hdep 12 (by decide) 22 rfl
            have k1 := str_list p.ks
            have k2 := str_list q.ks
            exact plan_do (by rfl) (plan_yield (i := 13) (V := fun _ _ v => v = (.bool (!(Op.bytesLess p.ks q.ks)) : Value)) (.bool (!(Op.bytesLess p.ks q.ks))) (by go_simp) rfl hK)
        intro a wz hkz hdef hsz hv hfr
        have e23 : a.tmps[23]?.getD undef = (.bool (!(Op.bytesLess p.ks q.ks))) := hv 13 23 rfl
        have he := act_eq a _ [some 10, some 11, some 12, some 13, some 14, some 15, some 16, some 17, some 18, some 19, some 20, some 21, some 22, some 23] 24 rfl hsz hdef hfr (fun d => a.tmps[d]?.getD undef) (fun _ _ => rfl)
        obtain ⟨v10, h10⟩ : ∃ v, a.tmps[10]?.getD undef = v := ⟨_, rfl⟩
        obtain ⟨v11, h11⟩ : ∃ v, a.tmps[11]?.getD undef = v := ⟨_, rfl⟩
        obtain ⟨v12, h12⟩ : ∃ v, a.tmps[12]?.getD undef = v := ⟨_, rfl⟩
        obtain ⟨v13, h13⟩ : ∃ v, a.tmps[13]?.getD undef = v := ⟨_, rfl⟩
        obtain ⟨v14, h14⟩ : ∃ v, a.tmps[14]?.getD undef = v := ⟨_, rfl⟩
        obtain ⟨v15, h15⟩ : ∃ v, a.tmps[15]?.getD undef = v := ⟨_, rfl⟩
        obtain ⟨v16, h16⟩ : ∃ v, a.tmps[16]?.getD undef = v := ⟨_, rfl⟩
        obtain ⟨v17, h17⟩ : ∃ v, a.tmps[17]?.getD undef = v := ⟨_, rfl⟩
        obtain ⟨v18, h18⟩ : ∃ v, a.tmps[18]?.getD undef = v := ⟨_, rfl⟩
        obtain ⟨v19, h19⟩ : ∃ v, a.tmps[19]?.getD undef = v := ⟨_, rfl⟩
        obtain ⟨v20, h20⟩ : ∃ v, a.tmps[20]?.getD undef = v := ⟨_, rfl⟩
        obtain ⟨v21, h21⟩ : ∃ v, a.tmps[21]?.getD undef = v := ⟨_, rfl⟩
        obtain ⟨v22, h22⟩ : ∃ v, a.tmps[22]?.getD undef = v := ⟨_, rfl⟩
        simp only [putAll, e23, h10, h11, h12, h13, h14, h15, h16, h17, h18, h19, h20, h21, h22, List.setIfInBounds_toArray, List.set_cons_zero, List.set_cons_succ] at he
        clear e23 h10 h11 h12 h13 h14 h15 h16 h17 h18 h19 h20 h21 h22 hdef hsz hv hfr
        subst he
        cases hc : Op.bytesLess p.ks q.ks with
        | false =>
          have HC := Lib.hid hc
          have HKZ := Lib.hid hkz
          clear hc hkz
          go_wp2
          go_ret
          exact BoolPost.no (HS.out.trans HKZ.out (fun _ _ e => e)) (fun e => not_rises HK1.out.1 HK1.out.2 (by rw [HC.out]; simp) e)
        | true =>
          have HC := Lib.hid hc
          have HKZ := Lib.hid hkz
          clear hc hkz
          go_wp2
          go_roundw
          case rel => exact ⟨j + 1, by omega, by go_num, HRI.out.step _ _ HK1.out.1 HK1.out.2 HC.out, HS.out.trans HKZ.out (fun _ _ e => e)⟩
          case measure => simp [intOf]; omega
      · have hge : ¬ (j : Int) + 1 < (N : Int) := by omega
        go_wp2
        go_ret
        exact BoolPost.yes HS.out (HRI.out.all (by rw [List.length_map, HN.out]; omega))

set_option maxRecDepth 100000 in
set_option maxHeartbeats 6400000 in
theorem refright_any (lv : Int) (po ko : Option Addr) (pn pc kn kc : Nat) (ps : List PairX) (ks : List KidX) (w : World) (h : NodeAt w po ko ps ks pc kc) (hp : ps.length = pn) (hk : ks.length = kn) (hpl : pn ≤ 1000000) (hkl : kn ≤ 1000000) :
    Calls Try.prog 22 #[nodeV lv po pn pc ko kn kc] w (BoolPost w (NRight lv (kvs ps) (kks ks))) := by
  have hB : Whole (w.alloc (.cells #[.int .i64 lv, .slice po pn pc, .slice ko kn kc] 25)) w.heap.size 25 [.int .i64 lv, .slice po pn pc, .slice ko kn kc] := heap_alloc_new w _
  have hs0 : Same w (w.alloc (.cells #[.int .i64 lv, .slice po pn pc, .slice ko kn kc] 25)) := (Keeps.refl _ _).alloc _
  have HB := Lib.hid hB
  have HS0 := Lib.hid hs0
  have HPL : Hid (ps.length = pn) := Lib.hid hp
  have HKL : Hid (ks.length = kn) := Lib.hid hk
  have hcp : pn ≤ pc := by rw [← hp]; exact h.hp
  have hck : kn ≤ kc := by rw [← hk]; exact h.hk
  have HH := Lib.hid h
  have HE : Hid (∀ q : Prop, (NRight lv (kvs ps) (kks ks) ↔ q) → (NRight lv (kvs ps) (kks ks) ↔ q)) := Lib.hid fun _ h => h
  clear hp hk h hB hs0
  by_cases h1 : lv < 0
  · have hno : ¬ NRight lv (kvs ps) (kks ks) := fun e => by have := e.1; omega
    have HNO := Lib.hid hno
    clear hno
    go_enter Try.func22, Try.ntmps22
    go_wp2
    go_ret
    exact BoolPost.no HS0.out HNO.out
  by_cases h2 : 15 < lv
  · have hno : ¬ NRight lv (kvs ps) (kks ks) := fun e => by have := e.1; omega
    have HNO := Lib.hid hno
    clear hno
    go_enter Try.func22, Try.ntmps22
    go_wp2
    go_ret
    exact BoolPost.no HS0.out HNO.out
  by_cases h0 : lv = 0
  · subst h0
    by_cases h3 : kn = 0
    · by_cases h4 : pn ≤ 255
      · have hyes : NRight 0 (kvs ps) (kks ks) ↔ Rises (ps.map (fun p => p.ks)) := by
          have e1 : kks ks = [] := len_eq_nil.1 (by rw [kks_length, HKL.out, h3])
          refine ⟨fun e => ?_, fun e => ⟨by omega, fun _ => ⟨e1, by rw [kvs_length, HPL.out]; exact h4, by rw [kvs_keys]; exact e⟩, fun e => absurd rfl e⟩⟩
          have := (e.2.1 rfl).2.2
          rwa [kvs_keys] at this
        have HY := Lib.hid hyes
        subst h3
        have g4 : ((pn : Int) < 256) ∧ ((pn : Int) ≤ 255) := by omega
        clear hyes
        go_enter Try.func22, Try.ntmps22
        go_wp2_with fail
        ((with_reducible refine (rising_any po pc pn ps _ (HH.out.pairs.same HS0.out) HPL.out hcp hpl).mono ?_); rintro e w' ⟨b, rfl, hk, hb⟩)
        have HK := Lib.hid (HS0.out.trans hk (fun _ _ e => e))
        have HB2 := Lib.hid (hb.trans HY.out.symm)
        clear hk hb
        go_wp2
        go_ret
        exact ⟨b, rfl, HK.out, HB2.out⟩
      · have hno : ¬ NRight 0 (kvs ps) (kks ks) := fun e => by
          have := (e.2.1 rfl).2.1
          rw [kvs_length, HPL.out] at this
          exact h4 this
        have HNO := Lib.hid hno
        subst h3
        have g4 : ¬ ((pn : Int) < 256) ∧ ¬ ((pn : Int) ≤ 255) := by omega
        clear hno
        go_enter Try.func22, Try.ntmps22
        go_wp2
        go_ret
        exact BoolPost.no HS0.out HNO.out
    · have hno : ¬ NRight 0 (kvs ps) (kks ks) := fun e => by
        have := (e.2.1 rfl).1
        have h5 : ks.length = 0 := by rw [← kks_length, this]; rfl
        rw [HKL.out] at h5
        exact h3 h5
      have HNO := Lib.hid hno
      have g3 : ((kn : Int) == 0) = false := by simpa using h3
      clear hno
      go_enter Try.func22, Try.ntmps22
      go_wp2
      go_ret
      exact BoolPost.no HS0.out HNO.out
  have g0 : (lv == 0) = false := by simpa using h0
  by_cases h3 : pn = 0
  · subst h3
    by_cases h4 : kn = 0
    · subst h4
      have hno : ¬ NRight lv (kvs ps) (kks ks) := fun e => by
        have := (e.2.2 h0).2.1
        rw [kks_length, HKL.out] at this
        omega
      have HNO := Lib.hid hno
      clear hno
      go_enter Try.func22, Try.ntmps22
      go_wp2
      go_ret
      exact BoolPost.no HS0.out HNO.out
    by_cases h5 : 4 < kn
    · have hno : ¬ NRight lv (kvs ps) (kks ks) := fun e => by
        have := (e.2.2 h0).2.1
        rw [kks_length, HKL.out] at this
        omega
      have HNO := Lib.hid hno
      have g4 : 1 ≤ (kn : Int) ∧ ¬ ((kn : Int) ≤ 4) := by omega
      clear hno
      go_enter Try.func22, Try.ntmps22
      go_wp2
      go_ret
      exact BoolPost.no HS0.out HNO.out
    have hyes : NRight lv (kvs ps) (kks ks) ↔ Rises (ks.map (fun p => p.fs)) := by
      have e1 : kvs ps = [] := len_eq_nil.1 (by rw [kvs_length, HPL.out])
      refine ⟨fun e => ?_, fun e => ⟨by omega, fun e2 => absurd e2 h0, fun _ => ⟨e1, by rw [kks_length, HKL.out]; omega, by rw [kks_keys]; exact e⟩⟩⟩
      have := (e.2.2 h0).2.2
      rwa [kks_keys] at this
    have HY := Lib.hid hyes
    have g4 : 1 ≤ (kn : Int) ∧ (kn : Int) ≤ 4 := by omega
    clear hyes
    go_enter Try.func22, Try.ntmps22
    go_wp2
    obtain ⟨w0, hw0⟩ : ∃ w0, w.alloc (.cells #[.int .i64 lv, .slice po 0 pc, .slice ko kn kc] 25) = w0 := ⟨_, rfl⟩
    rw [hw0] at HB HS0 ⊢
    clear hw0
    go_loopw [3] (fun i wr => ∃ j : Nat, j ≤ kn ∧ i = .int .i64 ((j : Int) + 1) ∧ RisesTo (ks.map (fun p => p.fs)) (j + 1) ∧ Same w0 wr) (fun i _ => kn + 1 - (intOf i).toNat)
    case atStart => exact ⟨0, by omega, rfl, RisesTo.one _, Keeps.refl _ _⟩
    case round =>
      obtain ⟨j, hj, rfl, hris, hs⟩ := hrel
      have HRI := Lib.hid hris
      have HS := Lib.hid hs
      clear hris hs
      have cl2 := (HB.out.keep HS.out (fun e => e)).cell (i := 2) rfl
      by_cases hlt : j + 1 < kn
      · have hjl : j < ks.length ∧ j + 1 < ks.length := by have := HKL.out; omega
        obtain ⟨g, off, rfl, hall⟩ : ∃ g off, ko = some ⟨g, off, none⟩ ∧ ∀ j (h : j < ks.length), KidAt w0 g (off + j * 33) ks[j] := by
          rcases (HH.out.kids.same HS0.out) with h | h
          · rw [h] at hjl; simp at hjl
          · exact h
        have HP := Lib.hid ((hall j hjl.1).same HS.out)
        have HQ := Lib.hid ((hall (j + 1) hjl.2).same HS.out)
        have HK1 : Hid ((ks.map (fun p => p.fs))[j]? = some ks[j].fs ∧ (ks.map (fun p => p.fs))[j + 1]? = some ks[j + 1].fs) := Lib.hid (by simp [hjl.1, hjl.2])
        generalize ks[j] = p at HP HK1
        generalize ks[j + 1] = q at HQ HK1
        have hlt2 : (j : Int) + 1 < (kn : Int) := by omega
        clear hall hjl
        go_wp2
        refine wp_region_do [[], [0], [], [2], [1, 3], [4], [5], [6], [], [8], [], [9, 10], [11], [12], [13], [7, 14]]
          [some 53, some 54, some 55, some 56, some 57, some 58, some 59, some 60, some 61, some 62, some 63, some 64, some 65, some 66, some 67, some 68]
          [.is (.pointer (some ⟨w.heap.size, 2, none⟩)), .is (.slice (some ⟨g, off, none⟩) kn kc), .is (.int .i64 ((j : Int) + 1)), .is (.int .i64 (j : Int)), .is (.pointer (some ⟨g, off + j * 33, none⟩)), .is (.pointer (some ⟨g, off + j * 33, none⟩)), .is (p.fv), .is (.string ⟨p.fs.toArray⟩), .is (.pointer (some ⟨w.heap.size, 2, none⟩)), .is (.slice (some ⟨g, off, none⟩) kn kc), .is (.int .i64 ((j : Int) + 1)), .is (.pointer (some ⟨g, off + (j + 1) * 33, none⟩)), .is (.pointer (some ⟨g, off + (j + 1) * 33, none⟩)), .is (q.fv), .is (.string ⟨q.fs.toArray⟩), .is (.bool (!(Op.bytesLess p.fs q.fs)))]
          10 _ _ 69 16 (by kernel_rfl) (by rfl) (by rfl) (by kernel_rfl) (by kernel_rfl) (by decide) ?_ ?_
        · refine ⟨?_, ?_, ?_, ?_, ?_, ?_, ?_, ?_, ?_, ?_, ?_, ?_, ?_, ?_, ?_, ?_, trivial⟩
          · intro a w' K hs' hdep hfr hK
            have f1 := hfr 1 (by decide)
            exact plan_do (by rfl) (plan_yield (i := 0) (V := fun _ _ v => v = (.pointer (some ⟨w.heap.size, 2, none⟩) : Value)) (.pointer (some ⟨w.heap.size, 2, none⟩)) (by go_simp) rfl hK)
          · intro a w' K hs' hdep hfr hK
            have e53 : a.tmps[53]?.getD undef = (.pointer (some ⟨w.heap.size, 2, none⟩)) := hdep 0 (by decide) 53 rfl
            have cl := (((HB.out.keep HS.out (fun e => e)).keep hs' (fun e => e)).cell (i := 2) rfl)
            exact plan_do (by rfl) (plan_yield (i := 1) (V := fun _ _ v => v = (.slice (some ⟨g, off, none⟩) kn kc : Value)) (.slice (some ⟨g, off, none⟩) kn kc) (by go_simp) rfl hK)
          · intro a w' K hs' hdep hfr hK
            have f3 := hfr 3 (by decide)
            exact plan_do (by rfl) (plan_yield (i := 2) (V := fun _ _ v => v = (.int .i64 ((j : Int) + 1) : Value)) (.int .i64 ((j : Int) + 1)) (by go_simp) rfl hK)
          · intro a w' K hs' hdep hfr hK
            have e55 : a.tmps[55]?.getD undef = (.int .i64 ((j : Int) + 1)) := hdep 2 (by decide) 55 rfl
            have ex : (j : Int) + 1 - 1 = (j : Int) := by omega
            have wj : IntKind.i64.wrap (j : Int) = (j : Int) := IntWalk.i64_in _ (by omega)
            exact plan_do (by rfl) (plan_yield (i := 3) (V := fun _ _ v => v = (.int .i64 (j : Int) : Value)) (.int .i64 (j : Int)) (by go_simp) rfl hK)
          · intro a w' K hs' hdep hfr hK
            have e54 : a.tmps[54]?.getD undef = (.slice (some ⟨g, off, none⟩) kn kc) := hdep 1 (by decide) 54 rfl
            have e56 : a.tmps[56]?.getD undef = (.int .i64 (j : Int)) := hdep 3 (by decide) 56 rfl
            have hin : (j : Int) < (kn : Int) := by omega
            exact plan_do (by rfl) (plan_yield (i := 4) (V := fun _ _ v => v = (.pointer (some ⟨g, off + j * 33, none⟩) : Value)) (.pointer (some ⟨g, off + j * 33, none⟩)) (by go_simp) rfl hK)
          · intro a w' K hs' hdep hfr hK
            have e57 : a.tmps[57]?.getD undef = (.pointer (some ⟨g, off + j * 33, none⟩)) := hdep 4 (by decide) 57 rfl
            exact plan_do (by rfl) (plan_yield (i := 5) (V := fun _ _ v => v = (.pointer (some ⟨g, off + j * 33, none⟩) : Value)) (.pointer (some ⟨g, off + j * 33, none⟩)) (by go_simp) rfl hK)
          · intro a w' K hs' hdep hfr hK
            have e58 : a.tmps[58]?.getD undef = (.pointer (some ⟨g, off + j * 33, none⟩)) := hdep 5 (by decide) 58 rfl
            have cl := (HP.out.same hs').cell0
            exact plan_do (by rfl) (plan_yield (i := 6) (V := fun _ _ v => v = (p.fv : Value)) (p.fv) (by go_simp) rfl hK)
          · intro a w' K hs' hdep hfr hK
            have e59 : a.tmps[59]?.getD undef = (p.fv) := hdep 6 (by decide) 59 rfl
            have kc := bytes_str (HP.out.same hs').bf (HP.out.same hs').sf
            exact plan_do (by rfl) (plan_yield (i := 7) (V := fun _ _ v => v = (.string ⟨p.fs.toArray⟩ : Value)) (.string ⟨p.fs.toArray⟩) (by go_simp) rfl hK)
          · intro a w' K hs' hdep hfr hK
            have f1 := hfr 1 (by decide)
            exact plan_do (by rfl) (plan_yield (i := 8) (V := fun _ _ v => v = (.pointer (some ⟨w.heap.size, 2, none⟩) : Value)) (.pointer (some ⟨w.heap.size, 2, none⟩)) (by go_simp) rfl hK)
          · intro a w' K hs' hdep hfr hK
            have e61 : a.tmps[61]?.getD undef = (.pointer (some ⟨w.heap.size, 2, none⟩)) := hdep 8 (by decide) 61 rfl
            have cl := (((HB.out.keep HS.out (fun e => e)).keep hs' (fun e => e)).cell (i := 2) rfl)
            exact plan_do (by rfl) (plan_yield (i := 9) (V := fun _ _ v => v = (.slice (some ⟨g, off, none⟩) kn kc : Value)) (.slice (some ⟨g, off, none⟩) kn kc) (by go_simp) rfl hK)
          · intro a w' K hs' hdep hfr hK
            have f3 := hfr 3 (by decide)
            exact plan_do (by rfl) (plan_yield (i := 10) (V := fun _ _ v => v = (.int .i64 ((j : Int) + 1) : Value)) (.int .i64 ((j : Int) + 1)) (by go_simp) rfl hK)
          · intro a w' K hs' hdep hfr hK
            have e62 : a.tmps[62]?.getD undef = (.slice (some ⟨g, off, none⟩) kn kc) := hdep 9 (by decide) 62 rfl
            have e63 : a.tmps[63]?.getD undef = (.int .i64 ((j : Int) + 1)) := hdep 10 (by decide) 63 rfl
            have hin : (j : Int) + 1 < (kn : Int) := by omega
            have hnn : ¬ ((j : Int) + 1 < 0) := by omega
            exact plan_do (by rfl) (plan_yield (i := 11) (V := fun _ _ v => v = (.pointer (some ⟨g, off + (j + 1) * 33, none⟩) : Value)) (.pointer (some ⟨g, off + (j + 1) * 33, none⟩)) (by go_simp) rfl hK)
          · intro a w' K hs' hdep hfr hK
            have e64 : a.tmps[64]?.getD undef = (.pointer (some ⟨g, off + (j + 1) * 33, none⟩)) := hdep 11 (by decide) 64 rfl
            exact plan_do (by rfl) (plan_yield (i := 12) (V := fun _ _ v => v = (.pointer (some ⟨g, off + (j + 1) * 33, none⟩) : Value)) (.pointer (some ⟨g, off + (j + 1) * 33, none⟩)) (by go_simp) rfl hK)
          · intro a w' K hs' hdep hfr hK
            have e65 : a.tmps[65]?.getD undef = (.pointer (some ⟨g, off + (j + 1) * 33, none⟩)) := hdep 12 (by decide) 65 rfl
            have cl := (HQ.out.same hs').cell0
            exact plan_do (by rfl) (plan_yield (i := 13) (V := fun _ _ v => v = (q.fv : Value)) (q.fv) (by go_simp) rfl hK)
          · intro a w' K hs' hdep hfr hK
            have e66 : a.tmps[66]?.getD undef = (q.fv) := hdep 13 (by decide) 66 rfl
            have kc := bytes_str (HQ.out.same hs').bf (HQ.out.same hs').sf
            exact plan_do (by rfl) (plan_yield (i := 14) (V := fun _ _ v => v = (.string ⟨q.fs.toArray⟩ : Value)) (.string ⟨q.fs.toArray⟩) (by go_simp) rfl hK)
          · intro a w' K hs' hdep hfr hK
            have e60 : a.tmps[60]?.getD undef = (.string ⟨p.fs.toArray⟩) := hdep 7 (by decide) 60 rfl
            have e67 : a.tmps[67]?.getD undef = (.string ⟨q.fs.toArray⟩) := hdep 14 (by decide) 67 rfl
            have k1 := str_list p.fs
            have k2 := str_list q.fs
            exact plan_do (by rfl) (plan_yield (i := 15) (V := fun _ _ v => v = (.bool (!(Op.bytesLess p.fs q.fs)) : Value)) (.bool (!(Op.bytesLess p.fs q.fs))) (by go_simp) rfl hK)
        intro a wz hkz hdef hsz hv hfr
        have e68 : a.tmps[68]?.getD undef = (.bool (!(Op.bytesLess p.fs q.fs))) := hv 15 68 rfl
        have he := act_eq a _ [some 53, some 54, some 55, some 56, some 57, some 58, some 59, some 60, some 61, some 62, some 63, some 64, some 65, some 66, some 67, some 68] 69 rfl hsz hdef hfr (fun d => a.tmps[d]?.getD undef) (fun _ _ => rfl)
        obtain ⟨v53, h53⟩ : ∃ v, a.tmps[53]?.getD undef = v := ⟨_, rfl⟩
        obtain ⟨v54, h54⟩ : ∃ v, a.tmps[54]?.getD undef = v := ⟨_, rfl⟩
        obtain ⟨v55, h55⟩ : ∃ v, a.tmps[55]?.getD undef = v := ⟨_, rfl⟩
        obtain ⟨v56, h56⟩ : ∃ v, a.tmps[56]?.getD undef = v := ⟨_, rfl⟩
        obtain ⟨v57, h57⟩ : ∃ v, a.tmps[57]?.getD undef = v := ⟨_, rfl⟩
        obtain ⟨v58, h58⟩ : ∃ v, a.tmps[58]?.getD undef = v := ⟨_, rfl⟩
        obtain ⟨v59, h59⟩ : ∃ v, a.tmps[59]?.getD undef = v := ⟨_, rfl⟩
        obtain ⟨v60, h60⟩ : ∃ v, a.tmps[60]?.getD undef = v := ⟨_, rfl⟩
        obtain ⟨v61, h61⟩ : ∃ v, a.tmps[61]?.getD undef = v := ⟨_, rfl⟩
        obtain ⟨v62, h62⟩ : ∃ v, a.tmps[62]?.getD undef = v := ⟨_, rfl⟩
        obtain ⟨v63, h63⟩ : ∃ v, a.tmps[63]?.getD undef = v := ⟨_, rfl⟩
        obtain ⟨v64, h64⟩ : ∃ v, a.tmps[64]?.getD undef = v := ⟨_, rfl⟩
        obtain ⟨v65, h65⟩ : ∃ v, a.tmps[65]?.getD undef = v := ⟨_, rfl⟩
        obtain ⟨v66, h66⟩ : ∃ v, a.tmps[66]?.getD undef = v := ⟨_, rfl⟩
        obtain ⟨v67, h67⟩ : ∃ v, a.tmps[67]?.getD undef = v := ⟨_, rfl⟩
        simp only [putAll, e68, h53, h54, h55, h56, h57, h58, h59, h60, h61, h62, h63, h64, h65, h66, h67, List.setIfInBounds_toArray, List.set_cons_zero, List.set_cons_succ] at he
        clear e68 h53 h54 h55 h56 h57 h58 h59 h60 h61 h62 h63 h64 h65 h66 h67 hdef hsz hv hfr
        subst he
        cases hc : Op.bytesLess p.fs q.fs with
        | false =>
          have HC := Lib.hid hc
          have HKZ := Lib.hid hkz
          clear hc hkz
          go_wp2
          go_ret
          exact BoolPost.no (HS0.out.trans (HS.out.trans HKZ.out (fun _ _ e => e)) (fun _ _ e => e)) (fun e => not_rises HK1.out.1 HK1.out.2 (by rw [HC.out]; simp) (HY.out.1 e))
        | true =>
          have HC := Lib.hid hc
          have HKZ := Lib.hid hkz
          clear hc hkz
          go_wp2
          go_roundw
          case rel => exact ⟨j + 1, by omega, by go_num, HRI.out.step _ _ HK1.out.1 HK1.out.2 HC.out, HS.out.trans HKZ.out (fun _ _ e => e)⟩
          case measure => simp [intOf]; omega
      · have hge : ¬ (j : Int) + 1 < (kn : Int) := by omega
        go_wp2
        go_ret
        exact BoolPost.yes (HS0.out.trans HS.out (fun _ _ e => e)) (HY.out.2 (HRI.out.all (by rw [List.length_map, HKL.out]; omega)))
  · have hno : ¬ NRight lv (kvs ps) (kks ks) := fun e => by
      have := (e.2.2 h0).1
      have h5 : ps.length = 0 := by rw [← kvs_length, this]; rfl
      rw [HPL.out] at h5
      exact h3 h5
    have HNO := Lib.hid hno
    have g3 : ((pn : Int) == 0) = false := by simpa using h3
    have g4 : 0 < (pn : Int) := by omega
    clear hno
    go_enter Try.func22, Try.ntmps22
    go_wp2
    go_ret
    exact BoolPost.no HS0.out HNO.out

end Go.Proofs.Ytdeajjppmgfemaa
