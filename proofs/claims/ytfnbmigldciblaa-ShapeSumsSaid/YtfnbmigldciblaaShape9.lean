/- The walk of ShapeLocal: groups behind a group's end. -/
import Derived.Test.YtfnbmigldciblaaShape6
import Derived.Test.YtfnbmigldciblaaShape8
namespace Go.Proofs.Ytfnbmigldciblaa
open Go.RowKit
set_option linter.unusedVariables false

/-- Where groups end they begin anew. -/
theorem groupsTo_bound (E : Nat → Nat → Prop) [∀ a b, Decidable (E a b)] (N : Nat) : ∀ k, (groupsTo E N k).1.sum = ((groupsTo E N k).2 : Int) ∧ ∀ n, n ≤ (groupsTo E N k).1.length → ∃ a : Nat, ((groupsTo E N k).1.take n).sum = (a : Int) ∧ a ≤ (groupsTo E N k).2 ∧ groupsTo E N a = ((groupsTo E N k).1.take n, a)
  | 0 => ⟨by simp [groupsTo], fun n hn => ⟨0, by simp [groupsTo], by simp [groupsTo], by simp [groupsTo]⟩⟩
  | k + 1 => by
    obtain ⟨ih1, ih2⟩ := groupsTo_bound E N k
    have hle := groupsTo_le E N k
    by_cases he : k + 1 = N ∨ E (groupsTo E N k).2 (k + 1)
    · have hg := groupsTo_end E N k he
      refine ⟨?_, fun n hn => ?_⟩
      · rw [hg]; simp only [List.sum_append, List.sum_cons, List.sum_nil, ih1]; omega
      · by_cases hn2 : n ≤ (groupsTo E N k).1.length
        · obtain ⟨a, h1, h2, h3⟩ := ih2 n hn2
          have ht : (groupsTo E N (k + 1)).1.take n = (groupsTo E N k).1.take n := by
            rw [hg]; simp only; rw [List.take_append_of_le_length hn2]
          rw [ht]
          exact ⟨a, h1, by rw [hg]; simp only; omega, h3⟩
        · have hl : (groupsTo E N (k + 1)).1.length = (groupsTo E N k).1.length + 1 := by rw [hg]; simp
          have ht : (groupsTo E N (k + 1)).1.take n = (groupsTo E N (k + 1)).1 := List.take_of_length_le (by omega)
          rw [ht]
          refine ⟨k + 1, ?_, by rw [hg]; exact Nat.le_refl _, ?_⟩
          · rw [hg]; simp only [List.sum_append, List.sum_cons, List.sum_nil, ih1]; omega
          · have h2 : (groupsTo E N (k + 1)).2 = k + 1 := by rw [hg]
            exact Prod.ext rfl h2
    · have hg := groupsTo_on E N k he
      rw [hg]
      exact ⟨ih1, ih2⟩
theorem groupsTo_shift (E E' : Nat → Nat → Prop) [∀ a b, Decidable (E a b)] [∀ a b, Decidable (E' a b)] (N a : Nat) (ha : a ≤ N) (pre : List Int) (h0 : groupsTo E N a = (pre, a)) (hE : ∀ f k, E' f (k + 1) ↔ E (a + f) (a + (k + 1))) :
    ∀ k, groupsTo E N (a + k) = (pre ++ (groupsTo E' (N - a) k).1, a + (groupsTo E' (N - a) k).2)
  | 0 => by simp [groupsTo, h0]
  | k + 1 => by
    have ih := groupsTo_shift E E' N a ha pre h0 hE k
    have hle := (groupsTo_le E' (N - a) k).1
    by_cases he : k + 1 = N - a ∨ E' (groupsTo E' (N - a) k).2 (k + 1)
    · rw [groupsTo_end E' _ _ he, show a + (k + 1) = a + k + 1 from rfl, groupsTo_end E N (a + k) (by
        rcases he with h | h
        · exact .inl (by omega)
        · exact .inr (by rw [ih]; exact (hE _ _).1 h)), ih]
      refine Prod.ext ?_ rfl
      simp only [List.append_assoc]
      congr 2
      simp; omega
    · rw [groupsTo_on E' _ _ he, show a + (k + 1) = a + k + 1 from rfl, groupsTo_on E N (a + k) (by
        rintro (h | h)
        · exact he (.inl (by omega))
        · rw [ih] at h; exact he (.inr ((hE _ _).2 h))), ih]

theorem leafEnds_shift (ps : List PairX) (a f k : Nat) : LeafEnds (ps.drop a) f (k + 1) ↔ LeafEnds ps (a + f) (a + (k + 1)) := by
  unfold LeafEnds
  rw [List.getElem?_drop, List.drop_drop, show a + (k + 1 - 1) = a + (k + 1) - 1 from by omega, show k + 1 + 1 - f = a + (k + 1) + 1 - (a + f) from by omega]
theorem leaves_bound (ps : List PairX) (n : Nat) (hn : n ≤ (leavesOf ps).length) : ∃ a : Nat, ((leavesOf ps).take n).sum = (a : Int) ∧ a ≤ ps.length ∧ (a < ps.length → n < (leavesOf ps).length ∧ leavesOf (ps.drop a) = (leavesOf ps).drop n) := by
  by_cases h0 : ps.length = 0
  · have hl : leavesOf ps = [0] := if_pos h0
    rw [hl] at hn ⊢
    refine ⟨0, ?_, by omega, fun h => by omega⟩
    rcases n with _ | n
    · simp
    · simp
  · have hl : leavesOf ps = (groupsTo (LeafEnds ps) ps.length ps.length).1 := if_neg h0
    rw [hl] at hn ⊢
    obtain ⟨a, h1, h2, h3⟩ := (groupsTo_bound (LeafEnds ps) ps.length ps.length).2 n hn
    have hle := (groupsTo_le (LeafEnds ps) ps.length ps.length).1
    refine ⟨a, h1, by omega, fun h => ?_⟩
    have hs := groupsTo_shift (LeafEnds ps) (LeafEnds (ps.drop a)) ps.length a (by omega) _ h3 (leafEnds_shift ps a) (ps.length - a)
    rw [show a + (ps.length - a) = ps.length from by omega] at hs
    have hd : (ps.drop a).length = ps.length - a := List.length_drop
    have hl2 : leavesOf (ps.drop a) = (groupsTo (LeafEnds (ps.drop a)) (ps.length - a) (ps.length - a)).1 := by
      unfold leavesOf; rw [if_neg (by omega), hd]
    have hs1 := congrArg Prod.fst hs
    simp only at hs1
    have hdr : (groupsTo (LeafEnds ps) ps.length ps.length).1.drop n = (groupsTo (LeafEnds (ps.drop a)) (ps.length - a) (ps.length - a)).1 := by
      have hlen : ((groupsTo (LeafEnds ps) ps.length ps.length).1.take n).length = n := by rw [List.length_take]; omega
      have := congrArg (List.drop n) hs1
      have h4 : List.drop n (List.take n (groupsTo (LeafEnds ps) ps.length ps.length).1) = [] := List.drop_of_length_le (by omega)
      rw [List.drop_append_of_le_length (by omega), h4, List.nil_append] at this
      exact this
    rw [hl2, hdr]
    refine ⟨?_, rfl⟩
    by_cases hne : n < (groupsTo (LeafEnds ps) ps.length ps.length).1.length
    · exact hne
    · exfalso
      rw [List.take_of_length_le (by omega), (groupsTo_bound (LeafEnds ps) ps.length ps.length).1] at h1
      obtain ⟨m, hm⟩ : ∃ m, ps.length = m + 1 := ⟨ps.length - 1, by omega⟩
      have h2 : (groupsTo (LeafEnds ps) ps.length ps.length).2 = ps.length := by
        rw [hm, groupsTo_end _ _ _ (.inl rfl)]
      omega

theorem leavesOf_len (ps : List PairX) : (leavesOf ps).length ≤ ps.length + 1 := by
  unfold leavesOf
  split
  · simp
  · have := (groupsTo_le (LeafEnds ps) ps.length ps.length).2; omega

theorem and_1023 (k : Int) : ∃ m : Nat, bits BinOp.and IntKind.i64 k 1023 = (m : Int) ∧ m ≤ 1023 := by
  have h2 : (BitVec.ofInt IntKind.i64.bits k &&& BitVec.ofInt IntKind.i64.bits 1023).toNat < 1024 := by
    rw [BitVec.toNat_and]
    have h3 : (BitVec.ofInt IntKind.i64.bits 1023).toNat = 1023 := by decide
    rw [h3]
    exact Nat.lt_succ_of_le Nat.and_le_right
  have h4 : bits BinOp.and IntKind.i64 k 1023 = IntKind.i64.wrap ((BitVec.ofInt IntKind.i64.bits k &&& BitVec.ofInt IntKind.i64.bits 1023).toNat : Int) := rfl
  rw [h4, IntWalk.i64_in _ (by omega)]
  exact ⟨_, rfl, by omega⟩

theorem Ints.dropAt {w : World} {g off L c n : Nat} {zs : List Int} (h : Ints w (.slice (some ⟨g, off, none⟩) L c) zs) (hn : n < zs.length) (m d : Nat) (hm : m = (zs.drop n).length) : Ints w (.slice (some ⟨g, off + n, none⟩) m d) (zs.drop n) := by
  subst hm
  rcases h with ⟨a, c', h1, hc⟩ | ⟨c', h1, h2⟩
  · simp only [Value.slice.injEq, Option.some.injEq] at h1
    obtain ⟨rfl, _, _⟩ := h1
    refine .inl ⟨_, d, rfl, fun j s hs => ?_⟩
    have := hc (n + j) s (by rw [← List.getElem?_drop]; exact hs)
    have e1 : (⟨g, off, none⟩ : Addr).add (n + j) = ⟨g, off + (n + j), none⟩ := by unfold Addr.add; split <;> simp_all
    have e2 : (⟨g, off + n, none⟩ : Addr).add j = ⟨g, off + n + j, none⟩ := by unfold Addr.add; split <;> simp_all
    rw [e1] at this
    rw [e2, Nat.add_assoc]
    exact this
  · subst h2; simp at hn

set_option maxRecDepth 100000 in
set_option maxHeartbeats 6400000 in
theorem localLaw (ao : Option Addr) (cap : Nat) (k : Int) (ps : List PairX) (w : World) (hr : Pairs w ao ps) (hcap : ps.length ≤ cap) (hcm : cap ≤ 9223372036854775807) :
    Calls Try.prog 6 #[.slice ao ps.length cap, .int .i64 k] w fun e w' => e = .returned (.bool true) ∧ Same w w' := by
  have HR := Lib.hid hr
  obtain ⟨N, hN⟩ : ∃ N, ps.length = N := ⟨_, rfl⟩
  have HN := Lib.hid hN
  rw [hN] at hcap ⊢
  clear hr hN
  go_enter Try.func6, Try.ntmps6
  go_wp2_with fail
  ((with_reducible refine (speaks06 _).mono ?_); rintro e w1 ⟨rfl, hk1⟩)
  have HK1 := Lib.hid hk1
  clear hk1
  go_wp2_with fail
  ((with_reducible refine (great_any ao N cap ps _ (HR.out.same HK1.out) HN.out (by omega)).mono ?_); rintro e w2 ⟨b, rfl, ⟨m, hw2⟩, hgr⟩)
  have HK2 : Hid (Same w w2) := Lib.hid (by rw [hw2]; exact HK1.out.drewN m)
  clear hw2
  cases b with
  | true =>
    clear hgr
    go_wp2
    go_ret
    exact ⟨rfl, HK2.out⟩
  | false =>
    have hgr := hgr rfl
    have hm1 : psum ps ≤ 8000 := by omega
    have hNl : N ≤ 2000 := by have := HN.out; omega
    have HM := Lib.hid hm1
    clear hgr hm1
    go_wp2_with fail
    ((with_reducible refine (show Calls Try.prog 14 #[.slice ao N cap] w2 _ from HN.out ▸ leaves_any ao cap ps w2 (HR.out.same HK2.out) (by have := HN.out; omega) (by have := HM.out; omega)).mono ?_); rintro e w3 ⟨v, rfl, ho, hk3⟩)
    have HO := Lib.hid ho
    have HK3 : Hid (Same w w3) := Lib.hid (HK2.out.trans hk3 (fun _ _ e => e))
    obtain ⟨L, hL⟩ : ∃ L, (leavesOf ps).length = L := ⟨_, rfl⟩
    have HL := Lib.hid hL
    have hform : ∃ vo vc, v = .slice vo L vc ∧ L ≤ vc ∧ (vo = none ∨ ∃ g, vo = some ⟨g, 0, none⟩) := by
      rcases ho.2 with ⟨h1, h2⟩ | ⟨g, cp, cur, h1, _, _, h2, _⟩
      · rw [hL] at h2; subst h2; exact ⟨none, 0, h1, Nat.le_refl _, .inl rfl⟩
      · rw [hL] at h1 h2; exact ⟨_, cp, h1, h2, .inr ⟨g, rfl⟩⟩
    obtain ⟨vo, vc, rfl, hLc, hvo⟩ := hform
    have hLN : L ≤ 2001 := by have := leavesOf_len ps; have := HN.out; omega
    have HI : Hid (Ints w3 (.slice vo L vc) (leavesOf ps)) := Lib.hid (Ints.of_own ho)
    clear ho hk3 hL
    obtain ⟨m2, hm2, hm3⟩ := and_1023 k
    obtain ⟨n, hn⟩ : ∃ n : Nat, (m2 : Int) % ((L : Int) + 1) = (n : Int) := Int.eq_ofNat_of_zero_le (Int.emod_nonneg _ (by omega))
    have hnL : n ≤ L := by have := Int.emod_lt_of_pos (m2 : Int) (b := (L : Int) + 1) (by omega); omega
    have hnL2 : (n : Int) ≤ (vc : Int) := by omega
    have hvc : vc ≤ 9223372036854775807 := by
      rcases HO.out.2 with ⟨h1, h2⟩ | ⟨g, cp, cur, h1, _, _, _, h2, _⟩
      · simp only [Value.slice.injEq] at h1; omega
      · simp only [Value.slice.injEq] at h1; unfold maxLen at h2; omega
    obtain ⟨a, ha1, ha2, ha3⟩ := leaves_bound ps n (by have := HL.out; omega)
    have HA1 := Lib.hid ha1
    have HA3 := Lib.hid ha3
    have haN : a ≤ N := by have := HN.out; omega
    clear ha1 ha2 ha3
    go_wp2
    rw [hn]
    clear hm2 hn
    go_loop [7, 9, 26] (fun s _ i => ∃ j : Nat, j ≤ n ∧ i = .int .i64 j ∧ ∃ z : Nat, ((leavesOf ps).take j).sum = (z : Int) ∧ z ≤ N ∧ s = .int .i64 z) (fun _ _ i => n - (intOf i).toNat)
    case atStart => exact ⟨0, by omega, rfl, 0, by simp, by omega, rfl⟩
    case round =>
      obtain ⟨j, hj, rfl, z, hz, hzN, rfl⟩ := hrel
      have HZ := Lib.hid hz
      clear hz
      by_cases hlt : j < n
      · have hjL : j < (leavesOf ps).length := by have := HL.out; omega
        obtain ⟨ad, rfl, hc⟩ := HI.out.at hjL
        obtain ⟨z2, hz2, hz2N, _⟩ := leaves_bound ps (j + 1) (by omega)
        have hz2N' : z2 ≤ N := by have := HN.out; omega
        have hsum : ((leavesOf ps).take (j + 1)).sum = ((leavesOf ps).take j).sum + (leavesOf ps)[j] := by
          rw [List.take_succ_eq_append_getElem hjL, List.sum_append]
          simp only [List.sum_cons, List.sum_nil, Int.add_zero]
        obtain ⟨x, hx⟩ : ∃ x, (leavesOf ps)[j] = x := ⟨_, rfl⟩
        rw [hx] at hc hsum
        have hx2 : (z : Int) + x = (z2 : Int) := by have := HZ.out; omega
        obtain rfl : x = (z2 : Int) - (z : Int) := by omega
        have HZ2 := Lib.hid hz2
        clear hz2 hsum hx hx2 hz2N
        clear hvo
        have hjn : (j : Int) < (n : Int) := by omega
        go_wp2
        go_round
        case rel => exact ⟨j + 1, by omega, by go_num, z2, HZ2.out, hz2N', by go_num⟩
        case measure => simp [intOf]; omega
      · obtain rfl : j = n := by omega
        have hza : z = a := by have := HZ.out; have := HA1.out; omega
        subst hza
        by_cases hq : z = N
        · subst hq
          go_wp2
          go_ret
          exact ⟨rfl, HK3.out⟩
        · have hzlt : z < N := by omega
          have hb : ((z : Int) == (N : Int)) = false := beq_false_of_ne (by omega)
          obtain ⟨hj1, hdrop⟩ := HA3.out (by have := HN.out; omega)
          have hjL : j < L := by have := HL.out; omega
          obtain ⟨g, off, ko, kc, vo', vc', rfl, -, -, -, -, -, -⟩ := HR.out.at (j := z) (by have := HN.out; omega)
          obtain ⟨ad, rfl, -⟩ := HI.out.at hj1
          rcases hvo with hvo | ⟨g2, hvo⟩
          · simp at hvo
          simp only [Option.some.injEq] at hvo
          subst hvo
          have HP : Hid (∀ w', Same w3 w' → Pairs w' (some ⟨g, off + z * 2, none⟩) (ps.drop z)) := Lib.hid fun w' hk => by
            have := (HR.out.same (HK3.out.trans hk (fun _ _ e => e))).part z (N - z) (by have := HN.out; omega)
            rwa [List.take_of_length_le (by rw [List.length_drop]; have := HN.out; omega)] at this
          have HD := Lib.hid hdrop
          have hdl : (ps.drop z).length = N - z := by rw [List.length_drop, HN.out]
          have HDL := Lib.hid hdl
          have HLV : Hid (∀ w', Same w3 w' → Calls Try.prog 14 #[.slice (some ⟨g, off + z * 2, none⟩) (N - z) (cap - z)] w' fun e w'' => ∃ v, e = .returned v ∧ w''.ownsRow w'.heap.size 3 1 v ((leavesOf ps).drop j).length (i64s ((leavesOf ps).drop j)) ∧ Same w' w'') := Lib.hid fun w' hk => by
            have := leaves_any (some ⟨g, off + z * 2, none⟩) (cap - z) (ps.drop z) w' (HP.out w' hk) (by omega) (by have := psum_drop_le ps z; have := HM.out; omega)
            rwa [hdl, hdrop] at this
          have HSI : Hid (∀ (w' : World) (vv : Value), Same w3 w' → w'.ownsRow w3.heap.size 3 1 vv ((leavesOf ps).drop j).length (i64s ((leavesOf ps).drop j)) → Calls Try.prog 13 #[vv, .slice (some ⟨g2, j, none⟩) (L - j) (vc - j)] w' fun e w'' => e = .returned (.bool true) ∧ Same w' w'') := Lib.hid fun w' vv hk hoo => by
            have i1 := Ints.of_own hoo
            have hl : ((leavesOf ps).drop j).length = L - j := by rw [List.length_drop, HL.out]
            have i2 : Ints w' (.slice (some ⟨g2, j, none⟩) (L - j) (vc - j)) ((leavesOf ps).drop j) := by
              have := (HI.out.same hk).dropAt hj1 (L - j) (vc - j) hl.symm
              rwa [Nat.zero_add] at this
            obtain ⟨v1, c1, rfl⟩ : ∃ vo c, vv = .slice vo (L - j) c := by
              rcases i1 with ⟨a, c, h, _⟩ | ⟨c, h, h0⟩
              · exact ⟨_, c, by rw [← hl]; exact h⟩
              · rw [h0] at hl; exact ⟨_, c, by rw [← hl]; exact h⟩
            refine (same_ints v1 _ (L - j) c1 _ _ _ w' i1 i2 hl hl (by omega)).mono ?_
            rintro e w'' ⟨b, rfl, ⟨mm, rfl⟩, hb⟩
            obtain rfl : b = true := hb.2 rfl
            exact ⟨rfl, (Keeps.refl _ _).drewN mm⟩
          have q1 : (0 : Int) ≤ (z : Int) := by omega
          have q2 : (z : Int) ≤ (N : Int) := by omega
          have q3 : (j : Int) ≤ (L : Int) := by omega
          have c1 : ¬ cap = z := by omega
          have c2 : ¬ vc = j := by omega
          clear hdrop hdl HR HA1 HA3 HZ
          go_wp2
          go_region_with (first
            | (go_at_call 14; (with_reducible refine (HLV.out _ ((Keeps.refl _ _).drew)).mono ?_); rintro e w5 ⟨vv, rfl, hoo, hk5⟩; have HOO := Lib.hid hoo; have HK5 := Lib.hid hk5; clear hoo hk5)
            | (go_at_call 13; (with_reducible refine (HSI.out _ _ (((Keeps.refl (fun _ => False) _).drew).trans HK5.out (fun _ _ e => e)) (own_base HOO.out (Nat.le_refl _))).mono ?_); rintro e w6 ⟨rfl, hk6⟩; have HK6 := Lib.hid hk6; clear hk6))
          all_goals go_wp2
          all_goals go_ret
          all_goals exact ⟨rfl, ((HK3.out.drew).trans HK5.out (fun _ _ e => e)).trans HK6.out (fun _ _ e => e)⟩

end Go.Proofs.Ytfnbmigldciblaa
