/- Digests compared; which of two votes is ahead. -/
import Derived.Test.YteidjpnmfmcfkaaVt1
import Derived.Test.YteidjpnmfmcfkaaEqH
namespace Go.Proofs.Yteidjpnmfmcfkaa
open Go.RowKit
set_option linter.unusedVariables false

theorem bytesLess_prefix : ∀ (p x y : List UInt8), Op.bytesLess (p ++ x) (p ++ y) = Op.bytesLess x y
  | [], _, _ => rfl
  | a :: p, x, y => by
    have ih := bytesLess_prefix p x y
    simp [Op.bytesLess, ih]
theorem bytesLess_at {a b : List UInt8} {j : Nat} {x y : UInt8} (ht : a.take j = b.take j) (ha : a[j]? = some x) (hb : b[j]? = some y) (h : ¬ x = y) : Op.bytesLess a b = decide (x.toNat < y.toNat) := by
  obtain ⟨h1, e1⟩ := List.getElem?_eq_some_iff.1 ha
  obtain ⟨h2, e2⟩ := List.getElem?_eq_some_iff.1 hb
  have ea : a = a.take j ++ (x :: a.drop (j + 1)) := by rw [← e1, ← List.drop_eq_getElem_cons h1, List.take_append_drop]
  have eb : b = a.take j ++ (y :: b.drop (j + 1)) := by rw [ht, ← e2, ← List.drop_eq_getElem_cons h2, List.take_append_drop]
  rw [ea, eb, bytesLess_prefix]
  have e : (x < y) ↔ (x.toNat < y.toNat) := UInt8.lt_iff_toNat_lt
  by_cases hl : x < y
  · have h3 := e.1 hl
    simp [Op.bytesLess, hl, h3]
  · have h3 : ¬ x.toNat < y.toNat := fun k => hl (e.2 k)
    have h5 : (x == y) = false := by simpa using h
    simp [Op.bytesLess, hl, h5, h3]
theorem bytesLess_self (a : List UInt8) : Op.bytesLess a a = false := by
  induction a with
  | nil => rfl
  | cons x r ih => simp [Op.bytesLess, ih, UInt8.lt_irrefl]
theorem vote_facts {w : World} {B : Nat} {t : TypeId} {v : VoteX} (h : Whole w B t v.cells) : ∀ w', Same w w' → w'.cell? ⟨B, 0, none⟩ = some (.int .i64 v.node) ∧ w'.cell? ⟨B, 1, none⟩ = some (.int .u64 v.view) ∧ w'.cell? ⟨B, 2, none⟩ = some (.int .u64 v.normal) ∧ w'.cell? ⟨B, 3, none⟩ = some (.int .u64 v.gen) ∧ w'.cell? ⟨B, 4, none⟩ = some (.int .u64 v.commit) ∧ w'.rangeAt B 5 (u8s v.head) := fun w' k => by
  have h' := h.keep k (fun e => e)
  refine ⟨h'.cell rfl, h'.cell rfl, h'.cell rfl, h'.cell rfl, h'.cell rfl, fun j u hu => h'.cell (i := 5 + j) ?_⟩
  rw [Nat.add_comm]
  exact hu
theorem Try.sizeHashV : (Try.prog.info? 29).map (fun i => i.size) = some 32 := by kernel_rfl

set_option maxRecDepth 100000 in
set_option maxHeartbeats 3200000 in
theorem orderHash_any (xa xb : List UInt8) (w : World) (ha : xa.length = 32) (hb : xb.length = 32) : Calls Try.prog 29 #[.agg (u8s xa).toArray, .agg (u8s xb).toArray] w fun e w' => e = .returned (.int .i64 (Lib.compareBytes xa xb)) ∧ Same w w' := by
  obtain ⟨w2, hw2⟩ : ∃ w2, (w.alloc (.cells (u8s xa).toArray 29)).alloc (.cells (u8s xb).toArray 29) = w2 := ⟨_, rfl⟩
  have HA : Hid (Bytes w2 (.slice (some ⟨w.heap.size, 0, none⟩) 32 32) xa) := Lib.hid (by rw [← hw2]; exact Bytes.of_block (heap_alloc2_old w _ _) (by simp) _ _ ha.symm)
  have HB : Hid (Bytes w2 (.slice (some ⟨w.heap.size + 1, 0, none⟩) 32 32) xb) := Lib.hid (by rw [← hw2]; exact Bytes.of_block (heap_alloc2_new w _ _) (by simp) _ _ hb.symm)
  have HS2 : Hid (Same w w2) := Lib.hid (by rw [← hw2]; exact ((Keeps.refl _ _).alloc _).alloc _)
  have HW2 := Lib.hid hw2
  clear hw2 ha hb
  go_enter Try.func29, Try.ntmps29
  go_wp2
  rw [HW2.out]
  refine wp_region_do [[], [], [0, 1], [2, 2, 0, 1, 2]]
    [some 5, some 6, some 7, some 4]
    [.is (.slice (some ⟨w.heap.size, 0, none⟩) 32 32), .is (.slice (some ⟨w.heap.size + 1, 0, none⟩) 32 32), .is (.int .i64 (Lib.compareBytes xa xb)), .is (.int .i64 (Lib.compareBytes xa xb))]
    1 _ _ 8 4 (by kernel_rfl) (by rfl) (by rfl) (by kernel_rfl) (by kernel_rfl) (by decide) ?_ ?_
  · refine ⟨?_, ?_, ?_, ?_, trivial⟩
    · intro a w' K hs' hdep hfr hK
      have f2 := hfr 2 (by decide)
      exact plan_do (by rfl) (plan_yield (i := 0) (V := fun _ _ v => v = (.slice (some ⟨w.heap.size, 0, none⟩) 32 32 : Value)) (.slice (some ⟨w.heap.size, 0, none⟩) 32 32) (by go_simp) rfl hK)
    · intro a w' K hs' hdep hfr hK
      have f3 := hfr 3 (by decide)
      exact plan_do (by rfl) (plan_yield (i := 1) (V := fun _ _ v => v = (.slice (some ⟨w.heap.size + 1, 0, none⟩) 32 32 : Value)) (.slice (some ⟨w.heap.size + 1, 0, none⟩) 32 32) (by go_simp) rfl hK)
    · intro a w' K hs' hdep hfr hK
      have e5 : a.tmps[5]?.getD undef = (.slice (some ⟨w.heap.size, 0, none⟩) 32 32) := hdep 0 (by decide) 5 rfl
      have e6 : a.tmps[6]?.getD undef = (.slice (some ⟨w.heap.size + 1, 0, none⟩) 32 32) := hdep 1 (by decide) 6 rfl
      refine plan_do (by rfl) (plan_call 33 #[.slice (some ⟨w.heap.size, 0, none⟩) 32 32, .slice (some ⟨w.heap.size + 1, 0, none⟩) 32 32] (by go_simp) ?_)
      exact (bytesCompare_any _ _ xa xb w' (HA.out.same hs') (HB.out.same hs')).mono fun e w'' ⟨he, hw⟩ => ⟨_, he, by subst hw; exact hK _ _ (Keeps.refl _ _) rfl⟩
    · intro a w' K hs' hdep hfr hK
      have e7 : a.tmps[7]?.getD undef = (.int .i64 (Lib.compareBytes xa xb)) := hdep 2 (by decide) 7 rfl
      exact plan_do (by rfl) (plan_yield (i := 3) (V := fun _ _ v => v = (.int .i64 (Lib.compareBytes xa xb) : Value)) (.int .i64 (Lib.compareBytes xa xb)) (by go_simp) rfl hK)
  intro a wz hkz hdef hsz hv hfr
  have e4 : a.tmps[4]?.getD undef = (.int .i64 (Lib.compareBytes xa xb)) := hv 3 4 rfl
  have he := act_eq a _ [some 5, some 6, some 7, some 4] 8 rfl hsz hdef hfr (fun d => a.tmps[d]?.getD undef) (fun _ _ => rfl)
  obtain ⟨v5, h5⟩ : ∃ v, a.tmps[5]?.getD undef = v := ⟨_, rfl⟩
  obtain ⟨v6, h6⟩ : ∃ v, a.tmps[6]?.getD undef = v := ⟨_, rfl⟩
  obtain ⟨v7, h7⟩ : ∃ v, a.tmps[7]?.getD undef = v := ⟨_, rfl⟩
  simp only [putAll, e4, h5, h6, h7, List.setIfInBounds_toArray, List.set_cons_zero, List.set_cons_succ] at he
  clear e4 h5 h6 h7 hdef hsz hv hfr
  subst he
  have HKZ := Lib.hid hkz
  clear hkz
  go_wp2
  go_ret
  exact ⟨rfl, HS2.out.trans HKZ.out (fun _ _ e => e)⟩

set_option maxRecDepth 100000 in
set_option maxHeartbeats 6400000 in
theorem less_any (xa xb : List UInt8) (w : World) (ha : xa.length = 32) (hb : xb.length = 32) : Calls Try.prog 30 #[.agg (u8s xa).toArray, .agg (u8s xb).toArray] w fun e w' => e = .returned (.bool (Op.bytesLess xa xb)) ∧ Same w w' := by
  obtain ⟨w2, hw2⟩ : ∃ w2, (w.alloc (.cells (u8s xa).toArray 29)).alloc (.cells (u8s xb).toArray 29) = w2 := ⟨_, rfl⟩
  have HA : Hid (Whole w2 w.heap.size 29 (u8s xa)) := Lib.hid (by rw [← hw2]; exact heap_alloc2_old w _ _)
  have HB : Hid (Whole w2 (w.heap.size + 1) 29 (u8s xb)) := Lib.hid (by rw [← hw2]; exact heap_alloc2_new w _ _)
  have HS2 : Hid (Same w w2) := Lib.hid (by rw [← hw2]; exact ((Keeps.refl _ _).alloc _).alloc _)
  have HW2 := Lib.hid hw2
  have HL := Lib.hid (And.intro ha hb)
  obtain ⟨r, hr⟩ : ∃ r, Op.bytesLess xa xb = r := ⟨_, rfl⟩
  have HR := Lib.hid hr
  rw [hr]
  clear hw2 ha hb hr
  go_enter Try.func30, Try.ntmps30
  go_wp2
  rw [HW2.out]
  go_loopw [5] (fun i wr => ∃ j : Nat, j ≤ 32 ∧ i = .int .i64 j ∧ xa.take j = xb.take j ∧ Same w2 wr) (fun i _ => 32 - (intOf i).toNat)
  case atStart => exact ⟨0, by omega, rfl, rfl, Keeps.refl _ _⟩
  case round =>
    obtain ⟨j, hj, rfl, ht, hs⟩ := hrel
    have HT := Lib.hid ht
    have HS := Lib.hid hs
    clear ht hs
    by_cases hlt : j < 32
    · obtain ⟨bx, hxb⟩ : ∃ x, xa[j]? = some x := ⟨_, List.getElem?_eq_getElem (by have := HL.out.1; omega)⟩
      obtain ⟨yb, hyb⟩ : ∃ x, xb[j]? = some x := ⟨_, List.getElem?_eq_getElem (by have := HL.out.2; omega)⟩
      have HXB := Lib.hid hxb
      have HYB := Lib.hid hyb
      obtain ⟨x, hx⟩ : ∃ n, bx.toNat = n := ⟨_, rfl⟩
      obtain ⟨y, hy⟩ : ∃ n, yb.toNat = n := ⟨_, rfl⟩
      have HXN := Lib.hid hx
      have HYN := Lib.hid hy
      have HCA : Hid (∀ w', Same wr w' → w'.cell? ⟨w.heap.size, j, none⟩ = some (.int .u8 (x : Int))) := Lib.hid (fun w' k => (HA.out.keep (HS.out.trans k (fun _ _ e => e)) (fun e => e)).cell (by simp [u8s, HXB.out, HXN.out]))
      have HCB : Hid (∀ w', Same wr w' → w'.cell? ⟨w.heap.size + 1, j, none⟩ = some (.int .u8 (y : Int))) := Lib.hid (fun w' k => (HB.out.keep (HS.out.trans k (fun _ _ e => e)) (fun e => e)).cell (by simp [u8s, HYB.out, HYN.out]))
      have hjn : (j : Int) < 32 := by omega
      clear hxb hyb hx hy
      by_cases he : x = y
      · subst he
        go_wp2
        refine wp_region_do [[], [0], [1], [], [3], [4], [2, 5]]
          [some 10, some 11, some 12, some 13, some 14, some 15, some 16]
          [.is (.int .i64 (j : Int)), .is (.pointer (some ⟨w.heap.size, j, none⟩)), .is (.int .u8 (x : Int)), .is (.int .i64 (j : Int)), .is (.pointer (some ⟨w.heap.size + 1, j, none⟩)), .is (.int .u8 (x : Int)), .is (.bool false)]
          4 _ _ 24 7 (by kernel_rfl) (by rfl) (by rfl) (by kernel_rfl) (by kernel_rfl) (by decide) ?_ ?_
        · refine ⟨?_, ?_, ?_, ?_, ?_, ?_, ?_, trivial⟩
          · intro a w' K hs' hdep hfr hK
            have f5 := hfr 5 (by decide)
            exact plan_do (by rfl) (plan_yield (i := 0) (V := fun _ _ v => v = (.int .i64 (j : Int) : Value)) (.int .i64 (j : Int)) (by go_simp) rfl hK)
          · intro a w' K hs' hdep hfr hK
            have e10 : a.tmps[10]?.getD undef = (.int .i64 (j : Int)) := hdep 0 (by decide) 10 rfl
            have f2 := hfr 2 (by decide)
            have hin : (j : Int) < 32 := by omega
            exact plan_do (by rfl) (plan_yield (i := 1) (V := fun _ _ v => v = (.pointer (some ⟨w.heap.size, j, none⟩) : Value)) (.pointer (some ⟨w.heap.size, j, none⟩)) (by go_simp) rfl hK)
          · intro a w' K hs' hdep hfr hK
            have e11 : a.tmps[11]?.getD undef = (.pointer (some ⟨w.heap.size, j, none⟩)) := hdep 1 (by decide) 11 rfl
            have cl := HCA.out w' hs'
            exact plan_do (by rfl) (plan_yield (i := 2) (V := fun _ _ v => v = (.int .u8 (x : Int) : Value)) (.int .u8 (x : Int)) (by go_simp) rfl hK)
          · intro a w' K hs' hdep hfr hK
            have f5 := hfr 5 (by decide)
            exact plan_do (by rfl) (plan_yield (i := 3) (V := fun _ _ v => v = (.int .i64 (j : Int) : Value)) (.int .i64 (j : Int)) (by go_simp) rfl hK)
          · intro a w' K hs' hdep hfr hK
            have e13 : a.tmps[13]?.getD undef = (.int .i64 (j : Int)) := hdep 3 (by decide) 13 rfl
            have f3 := hfr 3 (by decide)
            have hin : (j : Int) < 32 := by omega
            exact plan_do (by rfl) (plan_yield (i := 4) (V := fun _ _ v => v = (.pointer (some ⟨w.heap.size + 1, j, none⟩) : Value)) (.pointer (some ⟨w.heap.size + 1, j, none⟩)) (by go_simp) rfl hK)
          · intro a w' K hs' hdep hfr hK
            have e14 : a.tmps[14]?.getD undef = (.pointer (some ⟨w.heap.size + 1, j, none⟩)) := hdep 4 (by decide) 14 rfl
            have cl := HCB.out w' hs'
            exact plan_do (by rfl) (plan_yield (i := 5) (V := fun _ _ v => v = (.int .u8 (x : Int) : Value)) (.int .u8 (x : Int)) (by go_simp) rfl hK)
          · intro a w' K hs' hdep hfr hK
            have e12 : a.tmps[12]?.getD undef = (.int .u8 (x : Int)) := hdep 2 (by decide) 12 rfl
            have e15 : a.tmps[15]?.getD undef = (.int .u8 (x : Int)) := hdep 5 (by decide) 15 rfl
            exact plan_do (by rfl) (plan_yield (i := 6) (V := fun _ _ v => v = (.bool false : Value)) (.bool false) (by go_simp) rfl hK)
        intro a wz hkz hdef hsz hv hfr
        have e16 : a.tmps[16]?.getD undef = (.bool false) := hv 6 16 rfl
        have he := act_eq a _ [some 10, some 11, some 12, some 13, some 14, some 15, some 16] 24 rfl hsz hdef hfr (fun d => a.tmps[d]?.getD undef) (fun _ _ => rfl)
        obtain ⟨v10, h10⟩ : ∃ v, a.tmps[10]?.getD undef = v := ⟨_, rfl⟩
        obtain ⟨v11, h11⟩ : ∃ v, a.tmps[11]?.getD undef = v := ⟨_, rfl⟩
        obtain ⟨v12, h12⟩ : ∃ v, a.tmps[12]?.getD undef = v := ⟨_, rfl⟩
        obtain ⟨v13, h13⟩ : ∃ v, a.tmps[13]?.getD undef = v := ⟨_, rfl⟩
        obtain ⟨v14, h14⟩ : ∃ v, a.tmps[14]?.getD undef = v := ⟨_, rfl⟩
        obtain ⟨v15, h15⟩ : ∃ v, a.tmps[15]?.getD undef = v := ⟨_, rfl⟩
        simp only [putAll, e16, h10, h11, h12, h13, h14, h15, List.setIfInBounds_toArray, List.set_cons_zero, List.set_cons_succ] at he
        clear e16 h10 h11 h12 h13 h14 h15 hdef hsz hv hfr
        subst he
        have HKZ := Lib.hid hkz
        clear hkz
        go_wp2
        go_roundw
        case rel => exact ⟨j + 1, by omega, by go_num, by
          have e1 : bx = yb := UInt8.toNat_inj.1 (HXN.out.trans HYN.out.symm)
          rw [List.take_add_one, List.take_add_one, HT.out, HXB.out, HYB.out, e1], HS.out.trans HKZ.out (fun _ _ e => e)⟩
        case measure => simp [intOf]; omega
      · have HNE := Lib.hid he
        have HRV : Hid (r = decide ((x : Int) < (y : Int))) := Lib.hid (by
          rw [← HR.out, bytesLess_at HT.out HXB.out HYB.out (fun e => HNE.out (by rw [← HXN.out, ← HYN.out, e])), HXN.out, HYN.out]
          exact decide_eq_decide.2 (by omega))
        clear he
        go_wp2
        refine wp_region_do [[], [0], [1], [], [3], [4], [2, 5]]
          [some 10, some 11, some 12, some 13, some 14, some 15, some 16]
          [.is (.int .i64 (j : Int)), .is (.pointer (some ⟨w.heap.size, j, none⟩)), .is (.int .u8 (x : Int)), .is (.int .i64 (j : Int)), .is (.pointer (some ⟨w.heap.size + 1, j, none⟩)), .is (.int .u8 (y : Int)), .is (.bool true)]
          4 _ _ 24 7 (by kernel_rfl) (by rfl) (by rfl) (by kernel_rfl) (by kernel_rfl) (by decide) ?_ ?_
        · refine ⟨?_, ?_, ?_, ?_, ?_, ?_, ?_, trivial⟩
          · intro a w' K hs' hdep hfr hK
            have f5 := hfr 5 (by decide)
            exact plan_do (by rfl) (plan_yield (i := 0) (V := fun _ _ v => v = (.int .i64 (j : Int) : Value)) (.int .i64 (j : Int)) (by go_simp) rfl hK)
          · intro a w' K hs' hdep hfr hK
            have e10 : a.tmps[10]?.getD undef = (.int .i64 (j : Int)) := hdep 0 (by decide) 10 rfl
            have f2 := hfr 2 (by decide)
            have hin : (j : Int) < 32 := by omega
            exact plan_do (by rfl) (plan_yield (i := 1) (V := fun _ _ v => v = (.pointer (some ⟨w.heap.size, j, none⟩) : Value)) (.pointer (some ⟨w.heap.size, j, none⟩)) (by go_simp) rfl hK)
          · intro a w' K hs' hdep hfr hK
            have e11 : a.tmps[11]?.getD undef = (.pointer (some ⟨w.heap.size, j, none⟩)) := hdep 1 (by decide) 11 rfl
            have cl := HCA.out w' hs'
            exact plan_do (by rfl) (plan_yield (i := 2) (V := fun _ _ v => v = (.int .u8 (x : Int) : Value)) (.int .u8 (x : Int)) (by go_simp) rfl hK)
          · intro a w' K hs' hdep hfr hK
            have f5 := hfr 5 (by decide)
            exact plan_do (by rfl) (plan_yield (i := 3) (V := fun _ _ v => v = (.int .i64 (j : Int) : Value)) (.int .i64 (j : Int)) (by go_simp) rfl hK)
          · intro a w' K hs' hdep hfr hK
            have e13 : a.tmps[13]?.getD undef = (.int .i64 (j : Int)) := hdep 3 (by decide) 13 rfl
            have f3 := hfr 3 (by decide)
            have hin : (j : Int) < 32 := by omega
            exact plan_do (by rfl) (plan_yield (i := 4) (V := fun _ _ v => v = (.pointer (some ⟨w.heap.size + 1, j, none⟩) : Value)) (.pointer (some ⟨w.heap.size + 1, j, none⟩)) (by go_simp) rfl hK)
          · intro a w' K hs' hdep hfr hK
            have e14 : a.tmps[14]?.getD undef = (.pointer (some ⟨w.heap.size + 1, j, none⟩)) := hdep 4 (by decide) 14 rfl
            have cl := HCB.out w' hs'
            exact plan_do (by rfl) (plan_yield (i := 5) (V := fun _ _ v => v = (.int .u8 (y : Int) : Value)) (.int .u8 (y : Int)) (by go_simp) rfl hK)
          · intro a w' K hs' hdep hfr hK
            have e12 : a.tmps[12]?.getD undef = (.int .u8 (x : Int)) := hdep 2 (by decide) 12 rfl
            have e15 : a.tmps[15]?.getD undef = (.int .u8 (y : Int)) := hdep 5 (by decide) 15 rfl
            have z1 : ((x : Int) == (y : Int)) = false := by have := HNE.out; simp; omega
            have z2 : ((x : Int) != (y : Int)) = true := by have := HNE.out; simp; omega
            have z3 : ¬ (x : Int) = (y : Int) := by have := HNE.out; omega
            exact plan_do (by rfl) (plan_yield (i := 6) (V := fun _ _ v => v = (.bool true : Value)) (.bool true) (by go_simp) rfl hK)
        intro a wz hkz hdef hsz hv hfr
        have e16 : a.tmps[16]?.getD undef = (.bool true) := hv 6 16 rfl
        have he := act_eq a _ [some 10, some 11, some 12, some 13, some 14, some 15, some 16] 24 rfl hsz hdef hfr (fun d => a.tmps[d]?.getD undef) (fun _ _ => rfl)
        obtain ⟨v10, h10⟩ : ∃ v, a.tmps[10]?.getD undef = v := ⟨_, rfl⟩
        obtain ⟨v11, h11⟩ : ∃ v, a.tmps[11]?.getD undef = v := ⟨_, rfl⟩
        obtain ⟨v12, h12⟩ : ∃ v, a.tmps[12]?.getD undef = v := ⟨_, rfl⟩
        obtain ⟨v13, h13⟩ : ∃ v, a.tmps[13]?.getD undef = v := ⟨_, rfl⟩
        obtain ⟨v14, h14⟩ : ∃ v, a.tmps[14]?.getD undef = v := ⟨_, rfl⟩
        obtain ⟨v15, h15⟩ : ∃ v, a.tmps[15]?.getD undef = v := ⟨_, rfl⟩
        simp only [putAll, e16, h10, h11, h12, h13, h14, h15, List.setIfInBounds_toArray, List.set_cons_zero, List.set_cons_succ] at he
        clear e16 h10 h11 h12 h13 h14 h15 hdef hsz hv hfr
        subst he
        have HKZ := Lib.hid hkz
        have HCA2 := HCA
        have HCB2 := HCB
        clear hkz HCA HCB
        have HCA : Hid (∀ w', Same wz w' → w'.cell? ⟨w.heap.size, j, none⟩ = some (.int .u8 (x : Int))) := Lib.hid (fun w' k => HCA2.out w' (HKZ.out.trans k (fun _ _ e => e)))
        have HCB : Hid (∀ w', Same wz w' → w'.cell? ⟨w.heap.size + 1, j, none⟩ = some (.int .u8 (y : Int))) := Lib.hid (fun w' k => HCB2.out w' (HKZ.out.trans k (fun _ _ e => e)))
        go_wp2
        refine wp_region_do [[], [0], [1], [], [3], [4], [2, 5], [6, 0, 1, 2, 3, 4, 5, 6]]
          [some 17, some 18, some 19, some 20, some 21, some 22, some 23, some 4]
          [.is (.int .i64 (j : Int)), .is (.pointer (some ⟨w.heap.size, j, none⟩)), .is (.int .u8 (x : Int)), .is (.int .i64 (j : Int)), .is (.pointer (some ⟨w.heap.size + 1, j, none⟩)), .is (.int .u8 (y : Int)), .is (.bool (decide ((x : Int) < (y : Int)))), .is (.bool (decide ((x : Int) < (y : Int))))]
          5 _ _ 24 8 (by kernel_rfl) (by rfl) (by rfl) (by kernel_rfl) (by kernel_rfl) (by decide) ?_ ?_
        · refine ⟨?_, ?_, ?_, ?_, ?_, ?_, ?_, ?_, trivial⟩
          · intro a w' K hs' hdep hfr hK
            have f5 := hfr 5 (by decide)
            exact plan_do (by rfl) (plan_yield (i := 0) (V := fun _ _ v => v = (.int .i64 (j : Int) : Value)) (.int .i64 (j : Int)) (by go_simp) rfl hK)
          · intro a w' K hs' hdep hfr hK
            have e17 : a.tmps[17]?.getD undef = (.int .i64 (j : Int)) := hdep 0 (by decide) 17 rfl
            have f2 := hfr 2 (by decide)
            have hin : (j : Int) < 32 := by omega
            exact plan_do (by rfl) (plan_yield (i := 1) (V := fun _ _ v => v = (.pointer (some ⟨w.heap.size, j, none⟩) : Value)) (.pointer (some ⟨w.heap.size, j, none⟩)) (by go_simp) rfl hK)
          · intro a w' K hs' hdep hfr hK
            have e18 : a.tmps[18]?.getD undef = (.pointer (some ⟨w.heap.size, j, none⟩)) := hdep 1 (by decide) 18 rfl
            have cl := HCA.out w' hs'
            exact plan_do (by rfl) (plan_yield (i := 2) (V := fun _ _ v => v = (.int .u8 (x : Int) : Value)) (.int .u8 (x : Int)) (by go_simp) rfl hK)
          · intro a w' K hs' hdep hfr hK
            have f5 := hfr 5 (by decide)
            exact plan_do (by rfl) (plan_yield (i := 3) (V := fun _ _ v => v = (.int .i64 (j : Int) : Value)) (.int .i64 (j : Int)) (by go_simp) rfl hK)
          · intro a w' K hs' hdep hfr hK
            have e20 : a.tmps[20]?.getD undef = (.int .i64 (j : Int)) := hdep 3 (by decide) 20 rfl
            have f3 := hfr 3 (by decide)
            have hin : (j : Int) < 32 := by omega
            exact plan_do (by rfl) (plan_yield (i := 4) (V := fun _ _ v => v = (.pointer (some ⟨w.heap.size + 1, j, none⟩) : Value)) (.pointer (some ⟨w.heap.size + 1, j, none⟩)) (by go_simp) rfl hK)
          · intro a w' K hs' hdep hfr hK
            have e21 : a.tmps[21]?.getD undef = (.pointer (some ⟨w.heap.size + 1, j, none⟩)) := hdep 4 (by decide) 21 rfl
            have cl := HCB.out w' hs'
            exact plan_do (by rfl) (plan_yield (i := 5) (V := fun _ _ v => v = (.int .u8 (y : Int) : Value)) (.int .u8 (y : Int)) (by go_simp) rfl hK)
          · intro a w' K hs' hdep hfr hK
            have e19 : a.tmps[19]?.getD undef = (.int .u8 (x : Int)) := hdep 2 (by decide) 19 rfl
            have e22 : a.tmps[22]?.getD undef = (.int .u8 (y : Int)) := hdep 5 (by decide) 22 rfl
            have z1 : ((x : Int) == (y : Int)) = false := by have := HNE.out; simp; omega
            have z2 : ((x : Int) != (y : Int)) = true := by have := HNE.out; simp; omega
            have z3 : ¬ (x : Int) = (y : Int) := by have := HNE.out; omega
            exact plan_do (by rfl) (plan_yield (i := 6) (V := fun _ _ v => v = (.bool (decide ((x : Int) < (y : Int))) : Value)) (.bool (decide ((x : Int) < (y : Int)))) (by go_simp) rfl hK)
          · intro a w' K hs' hdep hfr hK
            have e23 : a.tmps[23]?.getD undef = (.bool (decide ((x : Int) < (y : Int)))) := hdep 6 (by decide) 23 rfl
            exact plan_do (by rfl) (plan_yield (i := 7) (V := fun _ _ v => v = (.bool (decide ((x : Int) < (y : Int))) : Value)) (.bool (decide ((x : Int) < (y : Int)))) (by go_simp) rfl hK)
        intro a wy hkz hdef hsz hv hfr
        have e4 : a.tmps[4]?.getD undef = (.bool (decide ((x : Int) < (y : Int)))) := hv 7 4 rfl
        have he := act_eq a _ [some 17, some 18, some 19, some 20, some 21, some 22, some 23, some 4] 24 rfl hsz hdef hfr (fun d => a.tmps[d]?.getD undef) (fun _ _ => rfl)
        obtain ⟨v17, h17⟩ : ∃ v, a.tmps[17]?.getD undef = v := ⟨_, rfl⟩
        obtain ⟨v18, h18⟩ : ∃ v, a.tmps[18]?.getD undef = v := ⟨_, rfl⟩
        obtain ⟨v19, h19⟩ : ∃ v, a.tmps[19]?.getD undef = v := ⟨_, rfl⟩
        obtain ⟨v20, h20⟩ : ∃ v, a.tmps[20]?.getD undef = v := ⟨_, rfl⟩
        obtain ⟨v21, h21⟩ : ∃ v, a.tmps[21]?.getD undef = v := ⟨_, rfl⟩
        obtain ⟨v22, h22⟩ : ∃ v, a.tmps[22]?.getD undef = v := ⟨_, rfl⟩
        obtain ⟨v23, h23⟩ : ∃ v, a.tmps[23]?.getD undef = v := ⟨_, rfl⟩
        simp only [putAll, e4, h17, h18, h19, h20, h21, h22, h23, List.setIfInBounds_toArray, List.set_cons_zero, List.set_cons_succ] at he
        clear e4 h17 h18 h19 h20 h21 h22 h23 hdef hsz hv hfr
        subst he
        have HKY := Lib.hid hkz
        clear hkz
        go_wp2
        go_ret
        exact ⟨by rw [HRV.out]; rfl, (HS2.out.trans HS.out (fun _ _ e => e)).trans (HKZ.out.trans HKY.out (fun _ _ e => e)) (fun _ _ e => e)⟩
    · obtain rfl : j = 32 := by omega
      have HRV : Hid (r = false) := Lib.hid (by
        have h := HT.out
        rw [List.take_of_length_le (by rw [HL.out.1]; exact Nat.le_refl _), List.take_of_length_le (by rw [HL.out.2]; exact Nat.le_refl _)] at h
        rw [← HR.out, h, bytesLess_self])
      go_wp2
      go_ret
      exact ⟨by rw [HRV.out]; rfl, HS2.out.trans HS.out (fun _ _ e => e)⟩

set_option maxRecDepth 100000 in
set_option maxHeartbeats 6400000 in
theorem better_any (xa xb : VoteX) (w : World) (ha : xa.head.length = 32) (hb : xb.head.length = 32) : Calls Try.prog 22 #[.agg xa.cells.toArray, .agg xb.cells.toArray] w fun e w' => e = .returned (.bool (above xa xb)) ∧ Same w w' := by
  obtain ⟨w2, hw2⟩ : ∃ w2, (w.alloc (.cells xa.cells.toArray 31)).alloc (.cells xb.cells.toArray 31) = w2 := ⟨_, rfl⟩
  have HA := Lib.hid (vote_facts (w := w2) (B := w.heap.size) (t := 31) (v := xa) (by rw [← hw2]; exact heap_alloc2_old w _ _))
  have HB := Lib.hid (vote_facts (w := w2) (B := w.heap.size + 1) (t := 31) (v := xb) (by rw [← hw2]; exact heap_alloc2_new w _ _))
  have HS2 : Hid (Same w w2) := Lib.hid (by rw [← hw2]; exact ((Keeps.refl _ _).alloc _).alloc _)
  have HW2 := Lib.hid hw2
  have HLA := Lib.hid ha
  have HLB := Lib.hid hb
  have HZA : Hid ((Try.prog.info? 29).map (fun i => i.size) = some (u8s xa.head).length) := Lib.hid (by rw [Try.sizeHashV, u8s_length, ha])
  have HZB : Hid ((Try.prog.info? 29).map (fun i => i.size) = some (u8s xb.head).length) := Lib.hid (by rw [Try.sizeHashV, u8s_length, hb])
  have HBA := Lib.hid (better_above xa xb)
  clear hw2 ha hb
  go_enter Try.func22, Try.ntmps22
  go_wp2
  rw [HW2.out]
  refine wp_region_tail [[], [0], [], [2], [1, 3], [], [5], [], [7], [6, 8, 4], [], [10], [], [12], [11, 13, 9], [], [15], [], [17], [16, 18, 14], [], [20], [], [22], [21, 23, 19], [4, 9, 14, 19, 24], [25, 24], [26], [27, 26, 0, 1, 2, 3, 4, 5, 6, 7, 8, 9, 10, 11, 12, 13, 14, 15, 16, 17, 18, 19, 20, 21, 22, 23, 24, 25, 26, 27]]
    [some 5, some 6, some 7, some 8, some 9, some 10, some 11, some 12, some 13, some 14, some 15, some 16, some 17, some 18, some 19, some 20, some 21, some 22, some 23, some 24, some 25, some 26, some 27, some 28, some 29, some 30, some 31, some 32, some 4]
    [.is (.pointer (some ⟨w.heap.size, 2, none⟩)), .is (.int .u64 xa.normal), .is (.pointer (some ⟨w.heap.size + 1, 2, none⟩)), .is (.int .u64 xb.normal), .is (.int .i64 (icmp xa.normal xb.normal)), .is (.pointer (some ⟨w.heap.size, 3, none⟩)), .is (.int .u64 xa.gen), .is (.pointer (some ⟨w.heap.size + 1, 3, none⟩)), .is (.int .u64 xb.gen), .is (.int .i64 (icmp xa.gen xb.gen)), .is (.pointer (some ⟨w.heap.size, 5, none⟩)), .is (.agg (u8s xa.head).toArray), .is (.pointer (some ⟨w.heap.size + 1, 5, none⟩)), .is (.agg (u8s xb.head).toArray), .is (.int .i64 (Lib.compareBytes xa.head xb.head)), .is (.pointer (some ⟨w.heap.size + 1, 0, none⟩)), .is (.int .i64 xb.node), .is (.pointer (some ⟨w.heap.size, 0, none⟩)), .is (.int .i64 xa.node), .is (.int .i64 (icmp xb.node xa.node)), .is (.pointer (some ⟨w.heap.size, 4, none⟩)), .is (.int .u64 xa.commit), .is (.pointer (some ⟨w.heap.size + 1, 4, none⟩)), .is (.int .u64 xb.commit), .is (.int .i64 (icmp xa.commit xb.commit)), .any, .any, .any, .any]
    (fun _ => False) [] (fun _ _ => True) 1 _ _ 33 25 29 (by kernel_rfl) (by rfl) (by rfl) (by omega) (by kernel_rfl) (by kernel_rfl) (by decide) (by decide) (fun _ e => e.elim) trivial (fun _ _ _ h _ => h) ?_ ?_
  · refine ⟨?_, ?_, ?_, ?_, ?_, ?_, ?_, ?_, ?_, ?_, ?_, ?_, ?_, ?_, ?_, ?_, ?_, ?_, ?_, ?_, ?_, ?_, ?_, ?_, ?_, trivial⟩
    · intro a w' K hs' hdep hfr hK
      have f2 := hfr 2 (by decide)
      exact plan_do (by rfl) (plan_yield (i := 0) (V := fun _ _ v => v = (.pointer (some ⟨w.heap.size, 2, none⟩) : Value)) (.pointer (some ⟨w.heap.size, 2, none⟩)) (by go_simp) rfl hK)
    · intro a w' K hs' hdep hfr hK
      have e5 : a.tmps[5]?.getD undef = (.pointer (some ⟨w.heap.size, 2, none⟩)) := hdep 0 (by decide) 5 rfl
      have ca := HA.out w' hs'
      have cl := ca.2.2.1
      exact plan_do (by rfl) (plan_yield (i := 1) (V := fun _ _ v => v = (.int .u64 xa.normal : Value)) (.int .u64 xa.normal) (by go_simp) rfl hK)
    · intro a w' K hs' hdep hfr hK
      have f3 := hfr 3 (by decide)
      exact plan_do (by rfl) (plan_yield (i := 2) (V := fun _ _ v => v = (.pointer (some ⟨w.heap.size + 1, 2, none⟩) : Value)) (.pointer (some ⟨w.heap.size + 1, 2, none⟩)) (by go_simp) rfl hK)
    · intro a w' K hs' hdep hfr hK
      have e7 : a.tmps[7]?.getD undef = (.pointer (some ⟨w.heap.size + 1, 2, none⟩)) := hdep 2 (by decide) 7 rfl
      have cb := HB.out w' hs'
      have cl := cb.2.2.1
      exact plan_do (by rfl) (plan_yield (i := 3) (V := fun _ _ v => v = (.int .u64 xb.normal : Value)) (.int .u64 xb.normal) (by go_simp) rfl hK)
    · intro a w' K hs' hdep hfr hK
      have e6 : a.tmps[6]?.getD undef = (.int .u64 xa.normal) := hdep 1 (by decide) 6 rfl
      have e8 : a.tmps[8]?.getD undef = (.int .u64 xb.normal) := hdep 3 (by decide) 8 rfl
      refine plan_do (by rfl) (plan_call 28 #[.int .u64 xa.normal, .int .u64 xb.normal] (by go_simp) ?_)
      exact (cmpU64_any xa.normal xb.normal w').mono fun e w'' ⟨he, hw⟩ => ⟨_, he, by subst hw; exact hK _ _ (Keeps.refl _ _) rfl⟩
    · intro a w' K hs' hdep hfr hK
      have f2 := hfr 2 (by decide)
      exact plan_do (by rfl) (plan_yield (i := 5) (V := fun _ _ v => v = (.pointer (some ⟨w.heap.size, 3, none⟩) : Value)) (.pointer (some ⟨w.heap.size, 3, none⟩)) (by go_simp) rfl hK)
    · intro a w' K hs' hdep hfr hK
      have e10 : a.tmps[10]?.getD undef = (.pointer (some ⟨w.heap.size, 3, none⟩)) := hdep 5 (by decide) 10 rfl
      have ca := HA.out w' hs'
      have cl := ca.2.2.2.1
      exact plan_do (by rfl) (plan_yield (i := 6) (V := fun _ _ v => v = (.int .u64 xa.gen : Value)) (.int .u64 xa.gen) (by go_simp) rfl hK)
    · intro a w' K hs' hdep hfr hK
      have f3 := hfr 3 (by decide)
      exact plan_do (by rfl) (plan_yield (i := 7) (V := fun _ _ v => v = (.pointer (some ⟨w.heap.size + 1, 3, none⟩) : Value)) (.pointer (some ⟨w.heap.size + 1, 3, none⟩)) (by go_simp) rfl hK)
    · intro a w' K hs' hdep hfr hK
      have e12 : a.tmps[12]?.getD undef = (.pointer (some ⟨w.heap.size + 1, 3, none⟩)) := hdep 7 (by decide) 12 rfl
      have cb := HB.out w' hs'
      have cl := cb.2.2.2.1
      exact plan_do (by rfl) (plan_yield (i := 8) (V := fun _ _ v => v = (.int .u64 xb.gen : Value)) (.int .u64 xb.gen) (by go_simp) rfl hK)
    · intro a w' K hs' hdep hfr hK
      have e11 : a.tmps[11]?.getD undef = (.int .u64 xa.gen) := hdep 6 (by decide) 11 rfl
      have e13 : a.tmps[13]?.getD undef = (.int .u64 xb.gen) := hdep 8 (by decide) 13 rfl
      refine plan_do (by rfl) (plan_call 28 #[.int .u64 xa.gen, .int .u64 xb.gen] (by go_simp) ?_)
      exact (cmpU64_any xa.gen xb.gen w').mono fun e w'' ⟨he, hw⟩ => ⟨_, he, by subst hw; exact hK _ _ (Keeps.refl _ _) rfl⟩
    · intro a w' K hs' hdep hfr hK
      have f2 := hfr 2 (by decide)
      exact plan_do (by rfl) (plan_yield (i := 10) (V := fun _ _ v => v = (.pointer (some ⟨w.heap.size, 5, none⟩) : Value)) (.pointer (some ⟨w.heap.size, 5, none⟩)) (by go_simp) rfl hK)
    · intro a w' K hs' hdep hfr hK
      have e15 : a.tmps[15]?.getD undef = (.pointer (some ⟨w.heap.size, 5, none⟩)) := hdep 10 (by decide) 15 rfl
      exact plan_do (by rfl) (wp_load_mid (P := Try.prog) 29 (.tmp 15) rfl (w.heap.size) 5 ((eval_tmp _ _).trans e15) (u8s xa.head) _ (HA.out w' hs').2.2.2.2.2 Try.underlying29 rfl HZA.out (hK _ _ (Keeps.refl _ _) rfl))
    · intro a w' K hs' hdep hfr hK
      have f3 := hfr 3 (by decide)
      exact plan_do (by rfl) (plan_yield (i := 12) (V := fun _ _ v => v = (.pointer (some ⟨w.heap.size + 1, 5, none⟩) : Value)) (.pointer (some ⟨w.heap.size + 1, 5, none⟩)) (by go_simp) rfl hK)
    · intro a w' K hs' hdep hfr hK
      have e17 : a.tmps[17]?.getD undef = (.pointer (some ⟨w.heap.size + 1, 5, none⟩)) := hdep 12 (by decide) 17 rfl
      exact plan_do (by rfl) (wp_load_mid (P := Try.prog) 29 (.tmp 17) rfl (w.heap.size + 1) 5 ((eval_tmp _ _).trans e17) (u8s xb.head) _ (HB.out w' hs').2.2.2.2.2 Try.underlying29 rfl HZB.out (hK _ _ (Keeps.refl _ _) rfl))
    · intro a w' K hs' hdep hfr hK
      have e16 : a.tmps[16]?.getD undef = (.agg (u8s xa.head).toArray) := hdep 11 (by decide) 16 rfl
      have e18 : a.tmps[18]?.getD undef = (.agg (u8s xb.head).toArray) := hdep 13 (by decide) 18 rfl
      refine plan_do (by rfl) (plan_call 29 #[.agg (u8s xa.head).toArray, .agg (u8s xb.head).toArray] (by go_simp) ?_)
      exact (orderHash_any xa.head xb.head w' HLA.out HLB.out).mono fun e w'' ⟨he, hk⟩ => ⟨_, he, hK _ _ hk rfl⟩
    · intro a w' K hs' hdep hfr hK
      have f3 := hfr 3 (by decide)
      exact plan_do (by rfl) (plan_yield (i := 15) (V := fun _ _ v => v = (.pointer (some ⟨w.heap.size + 1, 0, none⟩) : Value)) (.pointer (some ⟨w.heap.size + 1, 0, none⟩)) (by go_simp) rfl hK)
    · intro a w' K hs' hdep hfr hK
      have e20 : a.tmps[20]?.getD undef = (.pointer (some ⟨w.heap.size + 1, 0, none⟩)) := hdep 15 (by decide) 20 rfl
      have cb := HB.out w' hs'
      have cl := cb.1
      exact plan_do (by rfl) (plan_yield (i := 16) (V := fun _ _ v => v = (.int .i64 xb.node : Value)) (.int .i64 xb.node) (by go_simp) rfl hK)
    · intro a w' K hs' hdep hfr hK
      have f2 := hfr 2 (by decide)
      exact plan_do (by rfl) (plan_yield (i := 17) (V := fun _ _ v => v = (.pointer (some ⟨w.heap.size, 0, none⟩) : Value)) (.pointer (some ⟨w.heap.size, 0, none⟩)) (by go_simp) rfl hK)
    · intro a w' K hs' hdep hfr hK
      have e22 : a.tmps[22]?.getD undef = (.pointer (some ⟨w.heap.size, 0, none⟩)) := hdep 17 (by decide) 22 rfl
      have ca := HA.out w' hs'
      have cl := ca.1
      exact plan_do (by rfl) (plan_yield (i := 18) (V := fun _ _ v => v = (.int .i64 xa.node : Value)) (.int .i64 xa.node) (by go_simp) rfl hK)
    · intro a w' K hs' hdep hfr hK
      have e21 : a.tmps[21]?.getD undef = (.int .i64 xb.node) := hdep 16 (by decide) 21 rfl
      have e23 : a.tmps[23]?.getD undef = (.int .i64 xa.node) := hdep 18 (by decide) 23 rfl
      refine plan_do (by rfl) (plan_call 20 #[.int .i64 xb.node, .int .i64 xa.node] (by go_simp) ?_)
      exact (cmpInt_any xb.node xa.node w').mono fun e w'' ⟨he, hw⟩ => ⟨_, he, by subst hw; exact hK _ _ (Keeps.refl _ _) rfl⟩
    · intro a w' K hs' hdep hfr hK
      have f2 := hfr 2 (by decide)
      exact plan_do (by rfl) (plan_yield (i := 20) (V := fun _ _ v => v = (.pointer (some ⟨w.heap.size, 4, none⟩) : Value)) (.pointer (some ⟨w.heap.size, 4, none⟩)) (by go_simp) rfl hK)
    · intro a w' K hs' hdep hfr hK
      have e25 : a.tmps[25]?.getD undef = (.pointer (some ⟨w.heap.size, 4, none⟩)) := hdep 20 (by decide) 25 rfl
      have ca := HA.out w' hs'
      have cl := ca.2.2.2.2.1
      exact plan_do (by rfl) (plan_yield (i := 21) (V := fun _ _ v => v = (.int .u64 xa.commit : Value)) (.int .u64 xa.commit) (by go_simp) rfl hK)
    · intro a w' K hs' hdep hfr hK
      have f3 := hfr 3 (by decide)
      exact plan_do (by rfl) (plan_yield (i := 22) (V := fun _ _ v => v = (.pointer (some ⟨w.heap.size + 1, 4, none⟩) : Value)) (.pointer (some ⟨w.heap.size + 1, 4, none⟩)) (by go_simp) rfl hK)
    · intro a w' K hs' hdep hfr hK
      have e27 : a.tmps[27]?.getD undef = (.pointer (some ⟨w.heap.size + 1, 4, none⟩)) := hdep 22 (by decide) 27 rfl
      have cb := HB.out w' hs'
      have cl := cb.2.2.2.2.1
      exact plan_do (by rfl) (plan_yield (i := 23) (V := fun _ _ v => v = (.int .u64 xb.commit : Value)) (.int .u64 xb.commit) (by go_simp) rfl hK)
    · intro a w' K hs' hdep hfr hK
      have e26 : a.tmps[26]?.getD undef = (.int .u64 xa.commit) := hdep 21 (by decide) 26 rfl
      have e28 : a.tmps[28]?.getD undef = (.int .u64 xb.commit) := hdep 23 (by decide) 28 rfl
      refine plan_do (by rfl) (plan_call 28 #[.int .u64 xa.commit, .int .u64 xb.commit] (by go_simp) ?_)
      exact (cmpU64_any xa.commit xb.commit w').mono fun e w'' ⟨he, hw⟩ => ⟨_, he, by subst hw; exact hK _ _ (Keeps.refl _ _) rfl⟩
  intro a wz hkz hdef hsz hv hfr hEz
  have e9 : a.tmps[9]?.getD undef = (.int .i64 (icmp xa.normal xb.normal)) := hv 4 9 (by omega) rfl
  have e14 : a.tmps[14]?.getD undef = (.int .i64 (icmp xa.gen xb.gen)) := hv 9 14 (by omega) rfl
  have e19 : a.tmps[19]?.getD undef = (.int .i64 (Lib.compareBytes xa.head xb.head)) := hv 14 19 (by omega) rfl
  have e24 : a.tmps[24]?.getD undef = (.int .i64 (icmp xb.node xa.node)) := hv 19 24 (by omega) rfl
  have e29 : a.tmps[29]?.getD undef = (.int .i64 (icmp xa.commit xb.commit)) := hv 24 29 (by omega) rfl
  have he := act_eq a _ [some 5, some 6, some 7, some 8, some 9, some 10, some 11, some 12, some 13, some 14, some 15, some 16, some 17, some 18, some 19, some 20, some 21, some 22, some 23, some 24, some 25, some 26, some 27, some 28, some 29, some 30, some 31, some 32, some 4] 33 rfl hsz hdef hfr (fun d => a.tmps[d]?.getD undef) (fun _ _ => rfl)
  obtain ⟨v5, h5⟩ : ∃ v, a.tmps[5]?.getD undef = v := ⟨_, rfl⟩
  obtain ⟨v6, h6⟩ : ∃ v, a.tmps[6]?.getD undef = v := ⟨_, rfl⟩
  obtain ⟨v7, h7⟩ : ∃ v, a.tmps[7]?.getD undef = v := ⟨_, rfl⟩
  obtain ⟨v8, h8⟩ : ∃ v, a.tmps[8]?.getD undef = v := ⟨_, rfl⟩
  obtain ⟨v10, h10⟩ : ∃ v, a.tmps[10]?.getD undef = v := ⟨_, rfl⟩
  obtain ⟨v11, h11⟩ : ∃ v, a.tmps[11]?.getD undef = v := ⟨_, rfl⟩
  obtain ⟨v12, h12⟩ : ∃ v, a.tmps[12]?.getD undef = v := ⟨_, rfl⟩
  obtain ⟨v13, h13⟩ : ∃ v, a.tmps[13]?.getD undef = v := ⟨_, rfl⟩
  obtain ⟨v15, h15⟩ : ∃ v, a.tmps[15]?.getD undef = v := ⟨_, rfl⟩
  obtain ⟨v16, h16⟩ : ∃ v, a.tmps[16]?.getD undef = v := ⟨_, rfl⟩
  obtain ⟨v17, h17⟩ : ∃ v, a.tmps[17]?.getD undef = v := ⟨_, rfl⟩
  obtain ⟨v18, h18⟩ : ∃ v, a.tmps[18]?.getD undef = v := ⟨_, rfl⟩
  obtain ⟨v20, h20⟩ : ∃ v, a.tmps[20]?.getD undef = v := ⟨_, rfl⟩
  obtain ⟨v21, h21⟩ : ∃ v, a.tmps[21]?.getD undef = v := ⟨_, rfl⟩
  obtain ⟨v22, h22⟩ : ∃ v, a.tmps[22]?.getD undef = v := ⟨_, rfl⟩
  obtain ⟨v23, h23⟩ : ∃ v, a.tmps[23]?.getD undef = v := ⟨_, rfl⟩
  obtain ⟨v25, h25⟩ : ∃ v, a.tmps[25]?.getD undef = v := ⟨_, rfl⟩
  obtain ⟨v26, h26⟩ : ∃ v, a.tmps[26]?.getD undef = v := ⟨_, rfl⟩
  obtain ⟨v27, h27⟩ : ∃ v, a.tmps[27]?.getD undef = v := ⟨_, rfl⟩
  obtain ⟨v28, h28⟩ : ∃ v, a.tmps[28]?.getD undef = v := ⟨_, rfl⟩
  obtain ⟨v30, h30⟩ : ∃ v, a.tmps[30]?.getD undef = v := ⟨_, rfl⟩
  obtain ⟨v31, h31⟩ : ∃ v, a.tmps[31]?.getD undef = v := ⟨_, rfl⟩
  obtain ⟨v32, h32⟩ : ∃ v, a.tmps[32]?.getD undef = v := ⟨_, rfl⟩
  obtain ⟨v4, h4⟩ : ∃ v, a.tmps[4]?.getD undef = v := ⟨_, rfl⟩
  simp only [putAll, e9, e14, e19, e24, e29, h5, h6, h7, h8, h10, h11, h12, h13, h15, h16, h17, h18, h20, h21, h22, h23, h25, h26, h27, h28, h30, h31, h32, h4, List.setIfInBounds_toArray, List.set_cons_zero, List.set_cons_succ] at he
  clear e9 e14 e19 e24 e29 h5 h6 h7 h8 h10 h11 h12 h13 h15 h16 h17 h18 h20 h21 h22 h23 h25 h26 h27 h28 h30 h31 h32 h4 hdef hsz hv hfr
  subst he
  have HKZ := Lib.hid hkz
  have HOR := Lib.hid (or_any wz.heap.size 5 5 [icmp xa.normal xb.normal, icmp xa.gen xb.gen, Lib.compareBytes xa.head xb.head, icmp xb.node xa.node, icmp xa.commit xb.commit] (wz.alloc (.cells #[.int .i64 (icmp xa.normal xb.normal), .int .i64 (icmp xa.gen xb.gen), .int .i64 (Lib.compareBytes xa.head xb.head), .int .i64 (icmp xb.node xa.node), .int .i64 (icmp xa.commit xb.commit)] 3))
    (fun j u hu => by rw [Nat.zero_add]; exact (show Whole _ _ _ _ from heap_alloc_new wz _).cell hu) rfl (by omega))
  obtain ⟨o, ho⟩ : ∃ o, orOf [icmp xa.normal xb.normal, icmp xa.gen xb.gen, Lib.compareBytes xa.head xb.head, icmp xb.node xa.node, icmp xa.commit xb.commit] = o := ⟨_, rfl⟩
  rw [ho] at HBA HOR
  clear hkz hEz ho
  generalize icmp xa.normal xb.normal = x0 at *
  generalize icmp xa.gen xb.gen = x1 at *
  generalize Lib.compareBytes xa.head xb.head = x2 at *
  generalize icmp xb.node xa.node = x3 at *
  generalize icmp xa.commit xb.commit = x4 at *
  simp only [List.drop_succ_cons, List.drop_zero]
  go_wp2_with fail
  ((with_reducible refine HOR.out.mono ?_); rintro e w9 ⟨rfl, rfl⟩)
  have HS9 : Hid (Same w (wz.alloc (.cells #[.int .i64 x0, .int .i64 x1, .int .i64 x2, .int .i64 x3, .int .i64 x4] 3))) := Lib.hid ((HS2.out.trans HKZ.out (fun _ _ e => e)).alloc _)
  clear HOR
  by_cases hp : o > 0
  · have hr : above xa xb = true := by rw [← HBA.out]; exact decide_eq_true hp
    have HR := Lib.hid hr
    clear hr
    go_wp2
    go_ret
    exact ⟨by rw [HR.out]; first | (simp; done) | simp [hp], HS9.out⟩
  · have hr : above xa xb = false := by rw [← HBA.out]; exact decide_eq_false hp
    have HR := Lib.hid hr
    clear hr
    go_wp2
    go_ret
    exact ⟨by rw [HR.out]; first | (simp; done) | simp [hp], HS9.out⟩
end Go.Proofs.Yteidjpnmfmcfkaa
