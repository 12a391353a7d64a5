/- The walk of ShapeInner. -/
import Derived.Test.YtfnbmigldciblaaShape5
namespace Go.Proofs.Ytfnbmigldciblaa
open Go.RowKit
set_option linter.unusedVariables false

theorem inner_half (rs : List (Value × List UInt8)) (level : Int) (N : Nat) : ∀ k, k < N → 2 * (groupsTo (InnerEnds rs level) N k).1.length ≤ (groupsTo (InnerEnds rs level) N k).2
  | 0, _ => by simp [groupsTo]
  | k + 1, h => by
    have ih := inner_half rs level N k (by omega)
    have hle := groupsTo_le (InnerEnds rs level) N k
    by_cases he : InnerEnds rs level (groupsTo (InnerEnds rs level) N k).2 (k + 1)
    · rw [groupsTo_end _ _ _ (.inr he)]
      have h2 : 2 ≤ k + 1 - (groupsTo (InnerEnds rs level) N k).2 := by
        rcases he with h | h
        · omega
        · exact h.1
      simp only [List.length_append, List.length_cons, List.length_nil]
      omega
    · rw [groupsTo_on _ _ _ (fun h2 => h2.elim (by omega) he)]
      exact ih
theorem inner_fewer (rs : List (Value × List UInt8)) (level : Int) (h : 2 ≤ rs.length) : (innerOf rs level).length < rs.length := by
  unfold innerOf
  obtain ⟨n, hn⟩ : ∃ n, rs.length = n + 1 := ⟨rs.length - 1, by omega⟩
  rw [hn, groupsTo_end _ _ _ (.inl rfl)]
  have h1 := inner_half rs level (n + 1) n (by omega)
  have h2 := groupsTo_le (InnerEnds rs level) (n + 1) n
  simp only [List.length_append, List.length_cons, List.length_nil]
  omega
theorem groups_le {E : Nat → Nat → Prop} [∀ a b, Decidable (E a b)] (N : Nat) : (groupsTo E N N).1.length ≤ N := (groupsTo_le E N N).2
theorem same_own {w : World} {b1 b2 : Nat} {v1 v2 : Value} {zs : List Int} {e : TypeId} (h1 : w.ownsRow b1 e 1 v1 zs.length (i64s zs)) (h2 : w.ownsRow b2 e 1 v2 zs.length (i64s zs)) : ∃ ao bo c d, v1 = .slice ao zs.length c ∧ v2 = .slice bo zs.length d ∧ Ints w (.slice ao zs.length c) zs ∧ Ints w (.slice bo zs.length d) zs := by
  have i1 := Ints.of_own h1
  have i2 := Ints.of_own h2
  rcases i1 with ⟨a, c, rfl, x⟩ | ⟨c, rfl, rfl⟩
  · rcases i2 with ⟨b, d, rfl, y⟩ | ⟨d, rfl, h0⟩
    · exact ⟨_, _, _, _, rfl, rfl, .inl ⟨a, c, rfl, x⟩, .inl ⟨b, d, rfl, y⟩⟩
    · subst h0
      exact ⟨_, _, _, _, rfl, rfl, .inl ⟨a, c, rfl, x⟩, .inr ⟨d, rfl, rfl⟩⟩
  · rcases i2 with ⟨b, d, rfl, y⟩ | ⟨d, rfl, _⟩
    · exact ⟨_, _, _, _, rfl, rfl, .inr ⟨c, rfl, rfl⟩, .inl ⟨b, d, rfl, y⟩⟩
    · exact ⟨_, _, _, _, rfl, rfl, .inr ⟨c, rfl, rfl⟩, .inr ⟨d, rfl, rfl⟩⟩

set_option maxRecDepth 100000 in
set_option maxHeartbeats 1600000 in
theorem innerLaw_long (ao : Option Addr) (n c : Nat) (k : Int) (w : World) (h : (300 : Int) < (n : Int)) :
    Calls Try.prog 5 #[.slice ao n c, .int .i64 k] w fun e w' => e = .returned (.bool true) ∧ Same w w' := by
  go_enter Try.func5, Try.ntmps5
  go_wp2_with fail
  ((with_reducible refine (speaks06 _).mono ?_); rintro e w1 ⟨rfl, hk1⟩)
  go_wp2
  go_ret
  exact ⟨rfl, hk1⟩

set_option maxRecDepth 100000 in
set_option maxHeartbeats 6400000 in
theorem innerLaw_short (ao : Option Addr) (cap : Nat) (level : Int) (rs : List (Value × List UInt8)) (w : World) (hr : Rows2 w (.slice ao rs.length cap) rs) (hl : (rs.length : Int) ≤ 300) :
    Calls Try.prog 5 #[.slice ao rs.length cap, .int .i64 level] w fun e w' => e = .returned (.bool true) ∧ Same w w' := by
  have HR := Lib.hid hr
  clear hr
  go_enter Try.func5, Try.ntmps5
  go_wp2_with fail
  ((with_reducible refine (speaks06 _).mono ?_); rintro e w1 ⟨rfl, hk1⟩)
  have HK1 := Lib.hid hk1
  clear hk1
  go_wp2
  go_loop [6, 15] (fun _ i => ∃ j : Nat, j ≤ rs.length ∧ i = .int .i64 j ∧ ∀ r ∈ rs.take j, r.2.length ≤ 100) (fun _ i => rs.length - (intOf i).toNat)
  case atStart => exact ⟨0, by omega, rfl, by simp⟩
  case round =>
    obtain ⟨j, hj, rfl, hok⟩ := hrel
    have HOK := Lib.hid hok
    clear hok
    by_cases hlt : j < rs.length
    · obtain ⟨a, xo, xc, rfl, hx1, hx2, hx3⟩ := (HR.out.same HK1.out).at hlt
      have HX : Hid (rs[j]? = some rs[j]) := Lib.hid (List.getElem?_eq_getElem hlt)
      have hlt2 : (j : Int) < (rs.length : Int) := by omega
      obtain ⟨r, hr⟩ : ∃ r, rs[j] = r := ⟨_, rfl⟩
      have HRJ := Lib.hid hr
      rw [hr] at hx2
      clear hx1 hx3 hr
      by_cases q : (100 : Int) < (r.2.length : Int)
      · go_wp2
        go_ret
        exact ⟨rfl, HK1.out⟩
      · go_wp2
        go_round
        case rel =>
          refine ⟨j + 1, by omega, by go_num, fun s hs => ?_⟩
          rw [List.take_add_one, HX.out, HRJ.out, List.mem_append] at hs
          rcases hs with hs | hs
          · exact HOK.out s hs
          · simp only [Option.toList, List.mem_singleton] at hs
            subst hs; omega
        case measure => simp [intOf]; omega
    · have hjn : rs.take j = rs := List.take_of_length_le (by omega)
      have hok := HOK.out
      rw [hjn] at hok
      have HS : Hid (∀ r ∈ rs, r.2.length ≤ 1000000) := Lib.hid fun r hr => by have := hok r hr; omega
      clear hjn hok
      have hlt2 : ¬ (j : Int) < (rs.length : Int) := by omega
      go_wp2_with fail
      ((with_reducible refine (inner_any ao cap level rs _ (HR.out.same HK1.out) (by omega) HS.out).mono ?_); rintro e w2 ⟨v, rfl, ho, hk2⟩)
      have hform : ∃ vo vc, v = .slice vo (innerOf rs level).length vc := by
        rcases Ints.of_own ho with ⟨a, c, h, _⟩ | ⟨c, h, h0⟩
        · exact ⟨_, _, h⟩
        · rw [h0]; exact ⟨_, _, h⟩
      obtain ⟨vo, vc, rfl⟩ := hform
      have HO := Lib.hid ho
      have HK2 := Lib.hid hk2
      have hle : (innerOf rs level).length ≤ rs.length := groups_le _
      have hfew : (2 : Int) ≤ (rs.length : Int) → ¬ (rs.length : Int) ≤ ((innerOf rs level).length : Int) := fun h => by have := inner_fewer rs level (by omega); omega
      clear ho hk2
      by_cases q2 : (2 : Int) ≤ (rs.length : Int)
      · have hf := hfew q2
        clear hfew
        go_wp2_with fail
        ((with_reducible refine (rinner_any ao cap level rs _ (HR.out.same (HK1.out.trans HK2.out (fun _ _ e => e))) (by omega) HS.out).mono ?_); rintro e w3 ⟨v3, rfl, ho3, hk3⟩)
        obtain ⟨ao1, bo1, c1, d1, he1, rfl, i1, i2⟩ := same_own (own_keeps hk3 HO.out (fun _ _ e => e)) ho3
        rw [← he1] at i1
        have I1 := Lib.hid i1
        have I2 := Lib.hid i2
        have HK3 := Lib.hid hk3
        clear he1 i1 i2 ho3 hk3
        go_wp2_with fail
        ((with_reducible refine (same_ints vo bo1 _ vc d1 (innerOf rs level) (innerOf rs level) _ I1.out I2.out rfl rfl (by omega)).mono ?_); rintro e w4 ⟨b, rfl, ⟨m, rfl⟩, hb⟩)
        obtain rfl : b = true := hb.2 rfl
        clear hb
        go_wp2
        go_ret
        exact ⟨rfl, ((HK1.out.trans HK2.out (fun _ _ e => e)).trans HK3.out (fun _ _ e => e)).drewN m⟩
      · clear hfew
        go_wp2_with fail
        ((with_reducible refine (rinner_any ao cap level rs _ (HR.out.same (HK1.out.trans HK2.out (fun _ _ e => e))) (by omega) HS.out).mono ?_); rintro e w3 ⟨v3, rfl, ho3, hk3⟩)
        obtain ⟨ao1, bo1, c1, d1, he1, rfl, i1, i2⟩ := same_own (own_keeps hk3 HO.out (fun _ _ e => e)) ho3
        rw [← he1] at i1
        have I1 := Lib.hid i1
        have I2 := Lib.hid i2
        have HK3 := Lib.hid hk3
        clear he1 i1 i2 ho3 hk3
        go_wp2_with fail
        ((with_reducible refine (same_ints vo bo1 _ vc d1 (innerOf rs level) (innerOf rs level) _ I1.out I2.out rfl rfl (by omega)).mono ?_); rintro e w4 ⟨b, rfl, ⟨m, rfl⟩, hb⟩)
        obtain rfl : b = true := hb.2 rfl
        clear hb
        go_wp2
        go_ret
        exact ⟨rfl, ((HK1.out.trans HK2.out (fun _ _ e => e)).trans HK3.out (fun _ _ e => e)).drewN m⟩

end Go.Proofs.Ytfnbmigldciblaa
