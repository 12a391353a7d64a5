/- order.Rise of pairs and of kids. -/
import Derived.Test.YtdeajjppmgfemaaNd1
import Derived.Test.YtdeajjppmgfemaaCmp
import Derived.Test.YtdeajjppmgfemaaPlan5
import Derived.Test.YtdeajjppmgfemaaWhole
namespace Go.Proofs.Ytdeajjppmgfemaa
open Go.RowKit
set_option linter.unusedVariables false

/-- A bool that tells whether p holds; what was there stays. -/
def BoolPost (w : World) (p : Prop) (e : Ending) (w' : World) : Prop := ∃ b, e = .returned (.bool b) ∧ Same w w' ∧ (b = true ↔ p)
theorem BoolPost.yes {w w' : World} {p : Prop} (k : Same w w') (h : p) : BoolPost w p (.returned (.bool true)) w' := ⟨true, rfl, k, ⟨fun _ => h, fun _ => rfl⟩⟩
theorem BoolPost.no {w w' : World} {p : Prop} (k : Same w w') (h : ¬ p) : BoolPost w p (.returned (.bool false)) w' := ⟨false, rfl, k, ⟨fun e => by simp at e, fun e => absurd e h⟩⟩
def RisesTo (l : List (List UInt8)) (n : Nat) : Prop := ∀ (j : Nat) (a b : List UInt8), j + 1 < n → l[j]? = some a → l[j + 1]? = some b → Op.bytesLess a b = true
theorem RisesTo.one (l : List (List UInt8)) : RisesTo l 1 := fun j a b h => by omega
theorem RisesTo.all {l : List (List UInt8)} {n : Nat} (h : RisesTo l n) (hn : l.length ≤ n) : Rises l := fun j a b ha hb => h j a b (by have := (List.getElem?_eq_some_iff.1 hb).1; omega) ha hb
theorem RisesTo.step {l : List (List UInt8)} {n : Nat} (h : RisesTo l (n + 1)) (a b : List UInt8) (ha : l[n]? = some a) (hb : l[n + 1]? = some b) (hab : Op.bytesLess a b = true) : RisesTo l (n + 1 + 1) := fun j x y hj hx hy => by
  by_cases he : j = n
  · subst he
    rw [ha] at hx; rw [hb] at hy
    cases hx; cases hy; exact hab
  · exact h j x y (by omega) hx hy
theorem not_rises {l : List (List UInt8)} {n : Nat} {a b : List UInt8} (ha : l[n]? = some a) (hb : l[n + 1]? = some b) (h : ¬ Op.bytesLess a b = true) : ¬ Rises l := fun hr => h (hr n a b ha hb)
theorem Try.infoKid : (Try.prog.info? 46).map (fun i => i.size) = some 33 := by kernel_rfl
theorem Try.sizePair : (Try.prog.info? 54).map (fun i => i.size) = some 2 := by kernel_rfl
theorem PairAt.range {w : World} {g off : Nat} {p : PairX} (h : PairAt w g off p) : w.rangeAt g off [p.kv, p.vv] := fun j v hj => by
  match j with
  | 0 => simp at hj; subst hj; exact h.c0
  | 1 => simp at hj; subst hj; exact h.c1
  | j + 2 => simp at hj

set_option maxRecDepth 100000 in
set_option maxHeartbeats 1600000 in
theorem keyPair_any (v u : Value) (w : World) : Calls Try.prog 42 #[.agg #[v, u]] w fun e w' => e = .returned v ∧ Same w w' := by
  have hb : Whole (w.alloc (.cells #[v, u] 54)) w.heap.size 54 [v, u] := heap_alloc_new w _
  have hc := hb.cell (i := 0) rfl
  go_enter Try.func42, Try.ntmps42
  go_wp2
  go_ret
  exact ⟨rfl, (Keeps.refl _ _).alloc _⟩
set_option maxRecDepth 100000 in
set_option maxHeartbeats 1600000 in
theorem keyKid_any (k : KidX) (w : World) : Calls Try.prog 33 #[.agg k.cells.toArray] w fun e w' => e = .returned k.fv ∧ Same w w' := by
  have hb : Whole (w.alloc (.cells k.cells.toArray 46)) w.heap.size 46 k.cells := heap_alloc_new w _
  have hc := hb.cell (i := 0) rfl
  go_enter Try.func33, Try.ntmps33
  go_wp2
  go_ret
  exact ⟨rfl, (Keeps.refl _ _).alloc _⟩

set_option maxRecDepth 100000 in
set_option maxHeartbeats 6400000 in
theorem risePair_any (ao : Option Addr) (cap N : Nat) (ps : List PairX) (w : World) (hr : Pairs w ao ps) (hN : ps.length = N) (hcap : N ≤ cap) (hl : N ≤ 1000000) :
    Calls Try.prog 41 #[.slice ao N cap, .func (.func 42) #[] #[]] w (BoolPost w (Rises (ps.map (fun p : PairX => p.ks)))) := by
  have HR := Lib.hid hr
  have HN := Lib.hid hN
  have HSZ := Lib.hid Try.sizePair
  clear hr hN
  go_enter Try.func41, Try.ntmps41
  go_wp2
  go_loopw [5] (fun i wr => ∃ j : Nat, j ≤ N ∧ i = .int .i64 ((j : Int) + 1) ∧ RisesTo (ps.map (fun p : PairX => p.ks)) (j + 1) ∧ Same w wr) (fun i _ => N + 1 - (intOf i).toNat)
  case atStart => exact ⟨0, by omega, rfl, RisesTo.one _, Keeps.refl _ _⟩
  case round =>
    obtain ⟨j, hj, rfl, hris, hs⟩ := hrel
    have HRI := Lib.hid hris
    have HS := Lib.hid hs
    clear hris hs
    by_cases hlt : j + 1 < N
    · have hjl : j < ps.length ∧ j + 1 < ps.length := by have := HN.out; omega
      obtain ⟨g, off, rfl, hall⟩ : ∃ g off, ao = some ⟨g, off, none⟩ ∧ ∀ j (h : j < ps.length), PairAt w g (off + j * 2) ps[j] := by
        rcases HR.out with h | h
        · rw [h] at hjl; simp at hjl
        · exact h
      have HP := Lib.hid ((hall j hjl.1).same HS.out)
      have HQ := Lib.hid ((hall (j + 1) hjl.2).same HS.out)
      have HK1 : Hid ((ps.map (fun p : PairX => p.ks))[j]? = some ps[j].ks ∧ (ps.map (fun p : PairX => p.ks))[j + 1]? = some ps[j + 1].ks) := Lib.hid (by simp [hjl.1, hjl.2])
      generalize ps[j] = p at HP HK1
      generalize ps[j + 1] = q at HQ HK1
      have hlt2 : (j : Int) + 1 < (N : Int) := by omega
      clear hall hjl
      go_wp2
      refine wp_region_do [[], [], [], [2], [1, 3], [4], [0, 5], [], [], [], [8, 9], [10], [7, 11, 6], [6, 12, 12], [13]]
        [some 12, some 13, some 14, some 15, some 16, some 17, some 18, some 19, some 20, some 21, some 22, some 23, some 24, some 25, some 26]
        [.is (.func (.func 42) #[] #[]), .is (.slice (some ⟨g, off, none⟩) N cap), .is (.int .i64 ((j : Int) + 1)), .is (.int .i64 (j : Int)), .is (.pointer (some ⟨g, off + (j) * 2, none⟩)), .is (.agg #[p.kv, p.vv]), .is (p.kv), .is (.func (.func 42) #[] #[]), .is (.slice (some ⟨g, off, none⟩) N cap), .is (.int .i64 ((j : Int) + 1)), .is (.pointer (some ⟨g, off + (j + 1) * 2, none⟩)), .is (.agg #[q.kv, q.vv]), .is (q.kv), .is (.int .i64 (Lib.compareBytes p.ks q.ks)), .is (.bool (decide (Lib.compareBytes p.ks q.ks ≥ 0)))]
        4 _ _ 27 15 (by kernel_rfl) (by rfl) (by rfl) (by kernel_rfl) (by kernel_rfl) (by decide) ?_ ?_
      · refine ⟨?_, ?_, ?_, ?_, ?_, ?_, ?_, ?_, ?_, ?_, ?_, ?_, ?_, ?_, ?_, trivial⟩
        · intro a w' K hs' hdep hfr hK
          have f1 := hfr 1 (by decide)
          exact plan_do (by rfl) (plan_yield (i := 0) (V := fun _ _ v => v = (.func (.func 42) #[] #[] : Value)) (.func (.func 42) #[] #[]) (by go_simp) rfl hK)
        · intro a w' K hs' hdep hfr hK
          have f0 := hfr 0 (by decide)
          exact plan_do (by rfl) (plan_yield (i := 1) (V := fun _ _ v => v = (.slice (some ⟨g, off, none⟩) N cap : Value)) (.slice (some ⟨g, off, none⟩) N cap) (by go_simp) rfl hK)
        · intro a w' K hs' hdep hfr hK
          have f5 := hfr 5 (by decide)
          exact plan_do (by rfl) (plan_yield (i := 2) (V := fun _ _ v => v = (.int .i64 ((j : Int) + 1) : Value)) (.int .i64 ((j : Int) + 1)) (by go_simp) rfl hK)
        · intro a w' K hs' hdep hfr hK
          have e14 : a.tmps[14]?.getD undef = (.int .i64 ((j : Int) + 1)) := hdep 2 (by decide) 14 rfl
          have ex : (j : Int) + 1 - 1 = (j : Int) := by omega
          have wj : IntKind.i64.wrap (j : Int) = (j : Int) := IntWalk.i64_in _ (by omega)
          exact plan_do (by rfl) (plan_yield (i := 3) (V := fun _ _ v => v = (.int .i64 (j : Int) : Value)) (.int .i64 (j : Int)) (by go_simp) rfl hK)
        · intro a w' K hs' hdep hfr hK
          have e13 : a.tmps[13]?.getD undef = (.slice (some ⟨g, off, none⟩) N cap) := hdep 1 (by decide) 13 rfl
          have e15 : a.tmps[15]?.getD undef = (.int .i64 (j : Int)) := hdep 3 (by decide) 15 rfl
          have hin : (j : Int) < (N : Int) := by omega
          exact plan_do (by rfl) (plan_yield (i := 4) (V := fun _ _ v => v = (.pointer (some ⟨g, off + (j) * 2, none⟩) : Value)) (.pointer (some ⟨g, off + (j) * 2, none⟩)) (by go_simp) rfl hK)
        · intro a w' K hs' hdep hfr hK
          have e16 : a.tmps[16]?.getD undef = (.pointer (some ⟨g, off + (j) * 2, none⟩)) := hdep 4 (by decide) 16 rfl
          exact plan_do (by rfl) (wp_load_mid (P := Try.prog) 54 (.tmp 16) rfl g (off + (j) * 2) ((eval_tmp _ _).trans e16) [p.kv, p.vv] _ (range_same HP.out.range hs') Try.underlying54 rfl (HSZ.out) (hK _ _ (Keeps.refl _ _) rfl))
        · intro a w' K hs' hdep hfr hK
          have e12 : a.tmps[12]?.getD undef = (.func (.func 42) #[] #[]) := hdep 0 (by decide) 12 rfl
          have e17 : a.tmps[17]?.getD undef = (.agg #[p.kv, p.vv]) := hdep 5 (by decide) 17 rfl
          refine plan_do (by rfl) (plan_call 42 #[.agg #[p.kv, p.vv]] (by go_simp) ?_)
          exact (keyPair_any p.kv p.vv w').mono fun e w'' ⟨he, hk⟩ => ⟨_, he, hK _ _ hk rfl⟩
        · intro a w' K hs' hdep hfr hK
          have f1 := hfr 1 (by decide)
          exact plan_do (by rfl) (plan_yield (i := 7) (V := fun _ _ v => v = (.func (.func 42) #[] #[] : Value)) (.func (.func 42) #[] #[]) (by go_simp) rfl hK)
        · intro a w' K hs' hdep hfr hK
          have f0 := hfr 0 (by decide)
          exact plan_do (by rfl) (plan_yield (i := 8) (V := fun _ _ v => v = (.slice (some ⟨g, off, none⟩) N cap : Value)) (.slice (some ⟨g, off, none⟩) N cap) (by go_simp) rfl hK)
        · intro a w' K hs' hdep hfr hK
          have f5 := hfr 5 (by decide)
          exact plan_do (by rfl) (plan_yield (i := 9) (V := fun _ _ v => v = (.int .i64 ((j : Int) + 1) : Value)) (.int .i64 ((j : Int) + 1)) (by go_simp) rfl hK)
        · intro a w' K hs' hdep hfr hK
          have e20 : a.tmps[20]?.getD undef = (.slice (some ⟨g, off, none⟩) N cap) := hdep 8 (by decide) 20 rfl
          have e21 : a.tmps[21]?.getD undef = (.int .i64 ((j : Int) + 1)) := hdep 9 (by decide) 21 rfl
          have hin : (j : Int) + 1 < (N : Int) := by omega
          have hnn : ¬ ((j : Int) + 1 < 0) := by omega
          exact plan_do (by rfl) (plan_yield (i := 10) (V := fun _ _ v => v = (.pointer (some ⟨g, off + (j + 1) * 2, none⟩) : Value)) (.pointer (some ⟨g, off + (j + 1) * 2, none⟩)) (by go_simp) rfl hK)
        · intro a w' K hs' hdep hfr hK
          have e22 : a.tmps[22]?.getD undef = (.pointer (some ⟨g, off + (j + 1) * 2, none⟩)) := hdep 10 (by decide) 22 rfl
          exact plan_do (by rfl) (wp_load_mid (P := Try.prog) 54 (.tmp 22) rfl g (off + (j + 1) * 2) ((eval_tmp _ _).trans e22) [q.kv, q.vv] _ (range_same HQ.out.range hs') Try.underlying54 rfl (HSZ.out) (hK _ _ (Keeps.refl _ _) rfl))
        · intro a w' K hs' hdep hfr hK
          have e19 : a.tmps[19]?.getD undef = (.func (.func 42) #[] #[]) := hdep 7 (by decide) 19 rfl
          have e23 : a.tmps[23]?.getD undef = (.agg #[q.kv, q.vv]) := hdep 11 (by decide) 23 rfl
          refine plan_do (by rfl) (plan_call 42 #[.agg #[q.kv, q.vv]] (by go_simp) ?_)
          exact (keyPair_any q.kv q.vv w').mono fun e w'' ⟨he, hk⟩ => ⟨_, he, hK _ _ hk rfl⟩
        · intro a w' K hs' hdep hfr hK
          have e18 : a.tmps[18]?.getD undef = (p.kv) := hdep 6 (by decide) 18 rfl
          have e24 : a.tmps[24]?.getD undef = (q.kv) := hdep 12 (by decide) 24 rfl
          refine plan_do (by rfl) (plan_call 43 #[p.kv, q.kv] (by go_simp) ?_)
          exact (bytesCompare_any _ _ p.ks q.ks w' (HP.out.bk.same hs') (HQ.out.bk.same hs')).mono fun e w'' ⟨he, hw⟩ => ⟨_, he, by subst hw; exact hK _ _ (Keeps.refl _ _) rfl⟩
        · intro a w' K hs' hdep hfr hK
          have e25 : a.tmps[25]?.getD undef = (.int .i64 (Lib.compareBytes p.ks q.ks)) := hdep 13 (by decide) 25 rfl
          exact plan_do (by rfl) (plan_yield (i := 14) (V := fun _ _ v => v = (.bool (decide (Lib.compareBytes p.ks q.ks ≥ 0)) : Value)) (.bool (decide (Lib.compareBytes p.ks q.ks ≥ 0))) (by go_simp) rfl hK)
      intro a wz hkz hdef hsz hv hfr
      have e26 : a.tmps[26]?.getD undef = (.bool (decide (Lib.compareBytes p.ks q.ks ≥ 0))) := hv 14 26 rfl
      have he := act_eq a _ [some 12, some 13, some 14, some 15, some 16, some 17, some 18, some 19, some 20, some 21, some 22, some 23, some 24, some 25, some 26] 27 rfl hsz hdef hfr (fun d => a.tmps[d]?.getD undef) (fun _ _ => rfl)
      obtain ⟨v12, h12⟩ : ∃ v, a.tmps[12]?.getD undef = v := ⟨_, rfl⟩
      obtain ⟨v13, h13⟩ : ∃ v, a.tmps[13]?.getD undef = v := ⟨_, rfl⟩
      obtain ⟨v14, h14⟩ : ∃ v, a.tmps[14]?.getD undef = v := ⟨_, rfl⟩
      obtain ⟨v15, h15⟩ : ∃ v, a.tmps[15]?.getD undef = v := ⟨_, rfl⟩
      obtain ⟨v16, h16⟩ : ∃ v, a.tmps[16]?.getD undef = v := ⟨_, rfl⟩
      obtain ⟨v17, h17⟩ : ∃ v, a.tmps[17]?.getD undef = v := ⟨_, rfl⟩
      obtain ⟨v18, h18⟩ : ∃ v, a.tmps[18]?.getD undef = v := ⟨_, rfl⟩
      obtain ⟨v19, h19⟩ : ∃ v, a.tmps[19]?.getD undef = v := ⟨_, rfl⟩
      obtain ⟨v20, h20⟩ : ∃ v, a.tmps[20]?.getD undef = v := ⟨_, rfl⟩
      obtain ⟨v21, h21⟩ : ∃ v, a.tmps[21]?.getD undef = v := ⟨_, rfl⟩
      obtain ⟨v22, h22⟩ : ∃ v, a.tmps[22]?.getD undef = v := ⟨_, rfl⟩
      obtain ⟨v23, h23⟩ : ∃ v, a.tmps[23]?.getD undef = v := ⟨_, rfl⟩
      obtain ⟨v24, h24⟩ : ∃ v, a.tmps[24]?.getD undef = v := ⟨_, rfl⟩
      obtain ⟨v25, h25⟩ : ∃ v, a.tmps[25]?.getD undef = v := ⟨_, rfl⟩
      simp only [putAll, e26, h12, h13, h14, h15, h16, h17, h18, h19, h20, h21, h22, h23, h24, h25, List.setIfInBounds_toArray, List.set_cons_zero, List.set_cons_succ] at he
      clear e26 h12 h13 h14 h15 h16 h17 h18 h19 h20 h21 h22 h23 h24 h25 hdef hsz hv hfr
      subst he
      by_cases hc : Lib.compareBytes p.ks q.ks ≥ 0
      · have hd : decide (Lib.compareBytes p.ks q.ks ≥ 0) = true := by simpa using hc
        rw [hd]
        have HC := Lib.hid hc
        have HKZ := Lib.hid hkz
        clear hc hd hkz
        go_wp2
        go_ret
        refine BoolPost.no ?_ ?_
        · exact HS.out.trans HKZ.out (fun _ _ e => e)
        refine fun e => absurd e (not_rises HK1.out.1 HK1.out.2 (fun h => ?_))
        have := (cmp_less p.ks q.ks).1.2 h
        have := HC.out
        omega
      · have hd : decide (Lib.compareBytes p.ks q.ks ≥ 0) = false := by simpa using hc
        rw [hd]
        have HC := Lib.hid hc
        have HKZ := Lib.hid hkz
        clear hc hd hkz
        go_wp2
        go_roundw
        case rel => exact ⟨j + 1, by omega, by go_num, HRI.out.step _ _ HK1.out.1 HK1.out.2 ((cmp_less p.ks q.ks).1.1 (by have := HC.out; omega)), HS.out.trans HKZ.out (fun _ _ e => e)⟩
        case measure => simp [intOf]; omega
    · have hge : ¬ (j : Int) + 1 < (N : Int) := by omega
      go_wp2
      go_ret
      exact BoolPost.yes HS.out (HRI.out.all (by rw [List.length_map, HN.out]; omega))

set_option maxRecDepth 100000 in
set_option maxHeartbeats 6400000 in
theorem riseKid_any (ao : Option Addr) (cap N : Nat) (ks : List KidX) (w : World) (hr : Kids w ao ks) (hN : ks.length = N) (hcap : N ≤ cap) (hl : N ≤ 1000000) :
    Calls Try.prog 32 #[.slice ao N cap, .func (.func 33) #[] #[]] w (BoolPost w (Rises (ks.map (fun p : KidX => p.fs)))) := by
  have HR := Lib.hid hr
  have HN := Lib.hid hN
  have HSZ := Lib.hid Try.infoKid
  clear hr hN
  go_enter Try.func32, Try.ntmps32
  go_wp2
  go_loopw [5] (fun i wr => ∃ j : Nat, j ≤ N ∧ i = .int .i64 ((j : Int) + 1) ∧ RisesTo (ks.map (fun p : KidX => p.fs)) (j + 1) ∧ Same w wr) (fun i _ => N + 1 - (intOf i).toNat)
  case atStart => exact ⟨0, by omega, rfl, RisesTo.one _, Keeps.refl _ _⟩
  case round =>
    obtain ⟨j, hj, rfl, hris, hs⟩ := hrel
    have HRI := Lib.hid hris
    have HS := Lib.hid hs
    clear hris hs
    by_cases hlt : j + 1 < N
    · have hjl : j < ks.length ∧ j + 1 < ks.length := by have := HN.out; omega
      obtain ⟨g, off, rfl, hall⟩ : ∃ g off, ao = some ⟨g, off, none⟩ ∧ ∀ j (h : j < ks.length), KidAt w g (off + j * 33) ks[j] := by
        rcases HR.out with h | h
        · rw [h] at hjl; simp at hjl
        · exact h
      have HP := Lib.hid ((hall j hjl.1).same HS.out)
      have HQ := Lib.hid ((hall (j + 1) hjl.2).same HS.out)
      have HK1 : Hid ((ks.map (fun p : KidX => p.fs))[j]? = some ks[j].fs ∧ (ks.map (fun p : KidX => p.fs))[j + 1]? = some ks[j + 1].fs) := Lib.hid (by simp [hjl.1, hjl.2])
      generalize ks[j] = p at HP HK1
      generalize ks[j + 1] = q at HQ HK1
      have hlt2 : (j : Int) + 1 < (N : Int) := by omega
      clear hall hjl
      go_wp2
      refine wp_region_do [[], [], [], [2], [1, 3], [4], [0, 5], [], [], [], [8, 9], [10], [7, 11, 6], [6, 12, 12], [13]]
        [some 12, some 13, some 14, some 15, some 16, some 17, some 18, some 19, some 20, some 21, some 22, some 23, some 24, some 25, some 26]
        [.is (.func (.func 33) #[] #[]), .is (.slice (some ⟨g, off, none⟩) N cap), .is (.int .i64 ((j : Int) + 1)), .is (.int .i64 (j : Int)), .is (.pointer (some ⟨g, off + (j) * 33, none⟩)), .is (.agg p.cells.toArray), .is (p.fv), .is (.func (.func 33) #[] #[]), .is (.slice (some ⟨g, off, none⟩) N cap), .is (.int .i64 ((j : Int) + 1)), .is (.pointer (some ⟨g, off + (j + 1) * 33, none⟩)), .is (.agg q.cells.toArray), .is (q.fv), .is (.int .i64 (Lib.compareBytes p.fs q.fs)), .is (.bool (decide (Lib.compareBytes p.fs q.fs ≥ 0)))]
        4 _ _ 27 15 (by kernel_rfl) (by rfl) (by rfl) (by kernel_rfl) (by kernel_rfl) (by decide) ?_ ?_
      · refine ⟨?_, ?_, ?_, ?_, ?_, ?_, ?_, ?_, ?_, ?_, ?_, ?_, ?_, ?_, ?_, trivial⟩
        · intro a w' K hs' hdep hfr hK
          have f1 := hfr 1 (by decide)
          exact plan_do (by rfl) (plan_yield (i := 0) (V := fun _ _ v => v = (.func (.func 33) #[] #[] : Value)) (.func (.func 33) #[] #[]) (by go_simp) rfl hK)
        · intro a w' K hs' hdep hfr hK
          have f0 := hfr 0 (by decide)
          exact plan_do (by rfl) (plan_yield (i := 1) (V := fun _ _ v => v = (.slice (some ⟨g, off, none⟩) N cap : Value)) (.slice (some ⟨g, off, none⟩) N cap) (by go_simp) rfl hK)
        · intro a w' K hs' hdep hfr hK
          have f5 := hfr 5 (by decide)
          exact plan_do (by rfl) (plan_yield (i := 2) (V := fun _ _ v => v = (.int .i64 ((j : Int) + 1) : Value)) (.int .i64 ((j : Int) + 1)) (by go_simp) rfl hK)
        · intro a w' K hs' hdep hfr hK
          have e14 : a.tmps[14]?.getD undef = (.int .i64 ((j : Int) + 1)) := hdep 2 (by decide) 14 rfl
          have ex : (j : Int) + 1 - 1 = (j : Int) := by omega
          have wj : IntKind.i64.wrap (j : Int) = (j : Int) := IntWalk.i64_in _ (by omega)
          exact plan_do (by rfl) (plan_yield (i := 3) (V := fun _ _ v => v = (.int .i64 (j : Int) : Value)) (.int .i64 (j : Int)) (by go_simp) rfl hK)
        · intro a w' K hs' hdep hfr hK
          have e13 : a.tmps[13]?.getD undef = (.slice (some ⟨g, off, none⟩) N cap) := hdep 1 (by decide) 13 rfl
          have e15 : a.tmps[15]?.getD undef = (.int .i64 (j : Int)) := hdep 3 (by decide) 15 rfl
          have hin : (j : Int) < (N : Int) := by omega
          exact plan_do (by rfl) (plan_yield (i := 4) (V := fun _ _ v => v = (.pointer (some ⟨g, off + (j) * 33, none⟩) : Value)) (.pointer (some ⟨g, off + (j) * 33, none⟩)) (by go_simp) rfl hK)
        · intro a w' K hs' hdep hfr hK
          have e16 : a.tmps[16]?.getD undef = (.pointer (some ⟨g, off + (j) * 33, none⟩)) := hdep 4 (by decide) 16 rfl
          exact plan_do (by rfl) (wp_load_mid (P := Try.prog) 46 (.tmp 16) rfl g (off + (j) * 33) ((eval_tmp _ _).trans e16) p.cells _ (range_same HP.out.ra hs') Try.underlying46 rfl (HSZ.out.trans (congrArg some (KidX.cells_length _ HP.out.hl).symm)) (hK _ _ (Keeps.refl _ _) rfl))
        · intro a w' K hs' hdep hfr hK
          have e12 : a.tmps[12]?.getD undef = (.func (.func 33) #[] #[]) := hdep 0 (by decide) 12 rfl
          have e17 : a.tmps[17]?.getD undef = (.agg p.cells.toArray) := hdep 5 (by decide) 17 rfl
          refine plan_do (by rfl) (plan_call 33 #[.agg p.cells.toArray] (by go_simp) ?_)
          exact (keyKid_any p w').mono fun e w'' ⟨he, hk⟩ => ⟨_, he, hK _ _ hk rfl⟩
        · intro a w' K hs' hdep hfr hK
          have f1 := hfr 1 (by decide)
          exact plan_do (by rfl) (plan_yield (i := 7) (V := fun _ _ v => v = (.func (.func 33) #[] #[] : Value)) (.func (.func 33) #[] #[]) (by go_simp) rfl hK)
        · intro a w' K hs' hdep hfr hK
          have f0 := hfr 0 (by decide)
          exact plan_do (by rfl) (plan_yield (i := 8) (V := fun _ _ v => v = (.slice (some ⟨g, off, none⟩) N cap : Value)) (.slice (some ⟨g, off, none⟩) N cap) (by go_simp) rfl hK)
        · intro a w' K hs' hdep hfr hK
          have f5 := hfr 5 (by decide)
          exact plan_do (by rfl) (plan_yield (i := 9) (V := fun _ _ v => v = (.int .i64 ((j : Int) + 1) : Value)) (.int .i64 ((j : Int) + 1)) (by go_simp) rfl hK)
        · intro a w' K hs' hdep hfr hK
          have e20 : a.tmps[20]?.getD undef = (.slice (some ⟨g, off, none⟩) N cap) := hdep 8 (by decide) 20 rfl
          have e21 : a.tmps[21]?.getD undef = (.int .i64 ((j : Int) + 1)) := hdep 9 (by decide) 21 rfl
          have hin : (j : Int) + 1 < (N : Int) := by omega
          have hnn : ¬ ((j : Int) + 1 < 0) := by omega
          exact plan_do (by rfl) (plan_yield (i := 10) (V := fun _ _ v => v = (.pointer (some ⟨g, off + (j + 1) * 33, none⟩) : Value)) (.pointer (some ⟨g, off + (j + 1) * 33, none⟩)) (by go_simp) rfl hK)
        · intro a w' K hs' hdep hfr hK
          have e22 : a.tmps[22]?.getD undef = (.pointer (some ⟨g, off + (j + 1) * 33, none⟩)) := hdep 10 (by decide) 22 rfl
          exact plan_do (by rfl) (wp_load_mid (P := Try.prog) 46 (.tmp 22) rfl g (off + (j + 1) * 33) ((eval_tmp _ _).trans e22) q.cells _ (range_same HQ.out.ra hs') Try.underlying46 rfl (HSZ.out.trans (congrArg some (KidX.cells_length _ HQ.out.hl).symm)) (hK _ _ (Keeps.refl _ _) rfl))
        · intro a w' K hs' hdep hfr hK
          have e19 : a.tmps[19]?.getD undef = (.func (.func 33) #[] #[]) := hdep 7 (by decide) 19 rfl
          have e23 : a.tmps[23]?.getD undef = (.agg q.cells.toArray) := hdep 11 (by decide) 23 rfl
          refine plan_do (by rfl) (plan_call 33 #[.agg q.cells.toArray] (by go_simp) ?_)
          exact (keyKid_any q w').mono fun e w'' ⟨he, hk⟩ => ⟨_, he, hK _ _ hk rfl⟩
        · intro a w' K hs' hdep hfr hK
          have e18 : a.tmps[18]?.getD undef = (p.fv) := hdep 6 (by decide) 18 rfl
          have e24 : a.tmps[24]?.getD undef = (q.fv) := hdep 12 (by decide) 24 rfl
          refine plan_do (by rfl) (plan_call 43 #[p.fv, q.fv] (by go_simp) ?_)
          exact (bytesCompare_any _ _ p.fs q.fs w' (HP.out.bf.same hs') (HQ.out.bf.same hs')).mono fun e w'' ⟨he, hw⟩ => ⟨_, he, by subst hw; exact hK _ _ (Keeps.refl _ _) rfl⟩
        · intro a w' K hs' hdep hfr hK
          have e25 : a.tmps[25]?.getD undef = (.int .i64 (Lib.compareBytes p.fs q.fs)) := hdep 13 (by decide) 25 rfl
          exact plan_do (by rfl) (plan_yield (i := 14) (V := fun _ _ v => v = (.bool (decide (Lib.compareBytes p.fs q.fs ≥ 0)) : Value)) (.bool (decide (Lib.compareBytes p.fs q.fs ≥ 0))) (by go_simp) rfl hK)
      intro a wz hkz hdef hsz hv hfr
      have e26 : a.tmps[26]?.getD undef = (.bool (decide (Lib.compareBytes p.fs q.fs ≥ 0))) := hv 14 26 rfl
      have he := act_eq a _ [some 12, some 13, some 14, some 15, some 16, some 17, some 18, some 19, some 20, some 21, some 22, some 23, some 24, some 25, some 26] 27 rfl hsz hdef hfr (fun d => a.tmps[d]?.getD undef) (fun _ _ => rfl)
      obtain ⟨v12, h12⟩ : ∃ v, a.tmps[12]?.getD undef = v := ⟨_, rfl⟩
      obtain ⟨v13, h13⟩ : ∃ v, a.tmps[13]?.getD undef = v := ⟨_, rfl⟩
      obtain ⟨v14, h14⟩ : ∃ v, a.tmps[14]?.getD undef = v := ⟨_, rfl⟩
      obtain ⟨v15, h15⟩ : ∃ v, a.tmps[15]?.getD undef = v := ⟨_, rfl⟩
      obtain ⟨v16, h16⟩ : ∃ v, a.tmps[16]?.getD undef = v := ⟨_, rfl⟩
      obtain ⟨v17, h17⟩ : ∃ v, a.tmps[17]?.getD undef = v := ⟨_, rfl⟩
      obtain ⟨v18, h18⟩ : ∃ v, a.tmps[18]?.getD undef = v := ⟨_, rfl⟩
      obtain ⟨v19, h19⟩ : ∃ v, a.tmps[19]?.getD undef = v := ⟨_, rfl⟩
      obtain ⟨v20, h20⟩ : ∃ v, a.tmps[20]?.getD undef = v := ⟨_, rfl⟩
      obtain ⟨v21, h21⟩ : ∃ v, a.tmps[21]?.getD undef = v := ⟨_, rfl⟩
      obtain ⟨v22, h22⟩ : ∃ v, a.tmps[22]?.getD undef = v := ⟨_, rfl⟩
      obtain ⟨v23, h23⟩ : ∃ v, a.tmps[23]?.getD undef = v := ⟨_, rfl⟩
      obtain ⟨v24, h24⟩ : ∃ v, a.tmps[24]?.getD undef = v := ⟨_, rfl⟩
      obtain ⟨v25, h25⟩ : ∃ v, a.tmps[25]?.getD undef = v := ⟨_, rfl⟩
      simp only [putAll, e26, h12, h13, h14, h15, h16, h17, h18, h19, h20, h21, h22, h23, h24, h25, List.setIfInBounds_toArray, List.set_cons_zero, List.set_cons_succ] at he
      clear e26 h12 h13 h14 h15 h16 h17 h18 h19 h20 h21 h22 h23 h24 h25 hdef hsz hv hfr
      subst he
      by_cases hc : Lib.compareBytes p.fs q.fs ≥ 0
      · have hd : decide (Lib.compareBytes p.fs q.fs ≥ 0) = true := by simpa using hc
        rw [hd]
        have HC := Lib.hid hc
        have HKZ := Lib.hid hkz
        clear hc hd hkz
        go_wp2
        go_ret
        refine BoolPost.no ?_ ?_
        · exact HS.out.trans HKZ.out (fun _ _ e => e)
        refine fun e => absurd e (not_rises HK1.out.1 HK1.out.2 (fun h => ?_))
        have := (cmp_less p.fs q.fs).1.2 h
        have := HC.out
        omega
      · have hd : decide (Lib.compareBytes p.fs q.fs ≥ 0) = false := by simpa using hc
        rw [hd]
        have HC := Lib.hid hc
        have HKZ := Lib.hid hkz
        clear hc hd hkz
        go_wp2
        go_roundw
        case rel => exact ⟨j + 1, by omega, by go_num, HRI.out.step _ _ HK1.out.1 HK1.out.2 ((cmp_less p.fs q.fs).1.1 (by have := HC.out; omega)), HS.out.trans HKZ.out (fun _ _ e => e)⟩
        case measure => simp [intOf]; omega
    · have hge : ¬ (j : Int) + 1 < (N : Int) := by omega
      go_wp2
      go_ret
      exact BoolPost.yes HS.out (HRI.out.all (by rw [List.length_map, HN.out]; omega))
end Go.Proofs.Ytdeajjppmgfemaa
