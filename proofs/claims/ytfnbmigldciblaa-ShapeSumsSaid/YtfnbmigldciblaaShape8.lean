/- The document's leaves; whether pairs are too many. -/
import Derived.Test.YtfnbmigldciblaaShape7
import Derived.Test.YtfnbmigldciblaaShape5
namespace Go.Proofs.Ytfnbmigldciblaa
open Go.RowKit
set_option linter.unusedVariables false

/-- What Great tells: false only of pairs that aren't many. -/
def GreatPost (w : World) (ps : List PairX) (e : Ending) (w' : World) : Prop := ∃ b, e = .returned (.bool b) ∧ (∃ m, w' = w.drewN m) ∧ (b = false → psum ps + 4 * ps.length ≤ 8000)
theorem GreatPost.yes (w : World) (ps : List PairX) (m : Nat) : GreatPost w ps (.returned (.bool true)) (w.drewN m) := ⟨true, rfl, ⟨m, rfl⟩, fun e => by cases e⟩

set_option maxRecDepth 100000 in
set_option maxHeartbeats 3200000 in
theorem great_any (ao : Option Addr) (n cap : Nat) (ps : List PairX) (w : World) (hr : Pairs w ao ps) (hn : ps.length = n) (hl : n ≤ 9223372036854775807) :
    Calls Try.prog 11 #[.slice ao n cap] w (GreatPost w ps) := by
  have HR := Lib.hid hr
  have HN := Lib.hid hn
  clear hr hn
  go_enter Try.func11, Try.ntmps11
  go_wp2
  go_loopw [3, 4] (fun s i wr => ∃ j : Nat, j ≤ n ∧ i = .int .i64 j ∧ (∃ z : Nat, z = psum (ps.take j) + 4 * j ∧ z ≤ 30000 ∧ s = .int .i64 z) ∧ ∃ m, wr = w.drewN m) (fun _ i _ => n - (intOf i).toNat)
  case atStart => exact ⟨0, by omega, rfl, ⟨0, by simp [psum], by omega, rfl⟩, 0, rfl⟩
  case round =>
    obtain ⟨j, hj, rfl, ⟨z, hz, hzl, rfl⟩, m, rfl⟩ := hrel
    have HZ := Lib.hid hz
    clear hz
    by_cases hq : (z : Int) ≤ 8000
    · by_cases hlt : j < n
      · have hjl : j < ps.length := by have := HN.out; omega
        obtain ⟨g, off, ko, kc, vo, vc, rfl, -, -, c0, c1, -, -⟩ := HR.out.at hjl
        have hsn := psum_snoc ps j hjl
        have hps : psize ps[j] = 4 + ps[j].ks.length + ps[j].vs.length := rfl
        generalize ps[j] = p at *
        obtain ⟨kl, hkl⟩ : ∃ kl, p.ks.length = kl := ⟨_, rfl⟩
        obtain ⟨vl, hvl⟩ : ∃ vl, p.vs.length = vl := ⟨_, rfl⟩
        have HSN : Hid (psum (ps.take (j + 1)) + 4 * (j + 1) = z + (8 + kl + vl)) := Lib.hid (by rw [hsn, HZ.out, hps, hkl, hvl]; omega)
        rw [hkl] at c0
        rw [hvl] at c1
        clear hsn hps hkl hvl
        by_cases qk : (8000 : Int) < (kl : Int)
        · go_wp2
          go_ret
          exact GreatPost.yes _ _ _
        · by_cases qv : (8000 : Int) < (vl : Int)
          · go_wp2
            go_ret
            exact GreatPost.yes _ _ _
          · have w1 : IntKind.i64.wrap (8 + (kl : Int)) = 8 + (kl : Int) := IntWalk.i64_in _ (by omega)
            have w2 : IntKind.i64.wrap (8 + (kl : Int) + (vl : Int)) = 8 + (kl : Int) + (vl : Int) := IntWalk.i64_in _ (by omega)
            have w3 : IntKind.i64.wrap ((z : Int) + (8 + (kl : Int) + (vl : Int))) = (z : Int) + (8 + (kl : Int) + (vl : Int)) := IntWalk.i64_in _ (by omega)
            have hlt2 : (j : Int) < (n : Int) := by omega
            go_wp2
            go_quiet (fail)
            clear w1 w2 w3
            go_wp2
            go_roundw
            case rel => exact ⟨j + 1, by omega, by go_num, ⟨z + (8 + kl + vl), HSN.out.symm, by omega, by go_num⟩, _, rfl⟩
            case measure => simp [intOf]; omega
      · have hjn : j = n := by omega
        have HF : Hid (psum ps + 4 * ps.length ≤ 8000) := Lib.hid (by
          have h1 := HZ.out
          rw [List.take_of_length_le (by have := HN.out; omega)] at h1
          have := HN.out; omega)
        go_wp2
        go_ret
        exact ⟨_, rfl, ⟨m, rfl⟩, fun _ => HF.out⟩
    · by_cases hlt : j < n
      · go_wp2
        go_ret
        exact GreatPost.yes _ _ _
      · go_wp2
        go_ret
        exact GreatPost.yes _ _ _

set_option maxHeartbeats 800000 in
theorem rsize_any (ko vo : Option Addr) (kl kc vl vc : Nat) (w : World) (hk : kl ≤ 1000000) (hv : vl ≤ 1000000) :
    Calls Try.prog 22 #[.agg #[.slice ko kl kc, .slice vo vl vc]] w fun e w' => e = .returned (.int .i64 (4 + (kl : Int) + (vl : Int))) ∧ Same w w' := by
  go_enter Try.func22, Try.ntmps22
  go_wp2
  go_ret
  exact ⟨rfl, (Keeps.refl _ _).alloc _⟩

theorem psum_part (ps : List PairX) (f n : Nat) (h : f + n < ps.length) : psum ((ps.drop f).take (n + 1)) = psum ((ps.drop f).take n) + (4 + ps[f + n].ks.length + ps[f + n].vs.length) := by
  have hl : n < (ps.drop f).length := by rw [List.length_drop]; omega
  rw [psum_snoc (ps.drop f) n hl]
  simp [psize]
theorem psum_part_le (ps : List PairX) (f n : Nat) : psum ((ps.drop f).take n) ≤ psum ps := Nat.le_trans (psum_take_le _ n) (psum_drop_le ps f)

set_option maxRecDepth 100000 in
set_option maxHeartbeats 12800000 in
theorem rleaves_some (ao : Option Addr) (cap N : Nat) (ps : List PairX) (w : World) (hr : Pairs w ao ps) (hN : ps.length = N) (h0 : 0 < N) (hm : psum ps ≤ 1000000) :
    Calls Try.prog 15 #[.slice ao N cap] w fun e w' => ∃ v, e = .returned v ∧ w'.ownsRow w.heap.size 3 1 v (leavesOf ps).length (i64s (leavesOf ps)) ∧ Same w w' := by
  have HR := Lib.hid hr
  have HN := Lib.hid hN
  have hlen : N ≤ 1000000 := by have := psum_len ps; omega
  have HM := Lib.hid hm
  clear hr hN hm
  obtain ⟨i0, hi0, hz0, hz1, hz2⟩ := info_parts8 Try.infoInt
  go_enter Try.func15, Try.ntmps15
  go_wp2
  go_loopw [3, 4, 5, 6] (fun o i _ _ wr => ∃ f : Nat, f ≤ N ∧ i = .int .i64 f ∧ ∃ zs : List Int, groupsTo (LeafEnds ps) N f = (zs, f) ∧ zs.length ≤ f ∧ wr.ownsRow w.heap.size 3 1 o zs.length (i64s zs) ∧ Same w wr) (fun _ i _ _ _ => N - (intOf i).toNat)
  case atStart => exact ⟨0, by omega, rfl, [], rfl, by simp, own_made_int w, (Keeps.refl _ _).alloc _⟩
  case round =>
    obtain ⟨f, hf, rfl, zs, hg, hzs, ho, hs⟩ := hrel
    obtain ⟨wo, rfl⟩ : ∃ wo : World, wo = wr := ⟨_, rfl⟩
    have HO := Lib.hid ho
    have HS := Lib.hid hs
    have HG := Lib.hid hg
    clear ho hs hg
    by_cases hlt : f < N
    · have hfl : f < ps.length := by have := HN.out; omega
      obtain ⟨g, off, ko, kc, vo, vc, rfl, -, -, c0, c1, -, -⟩ := (HR.out.same HS.out).at hfl
      have hp1 : psum ((ps.drop f).take 1) = psum ((ps.drop f).take 0) + (4 + ps[f].ks.length + ps[f].vs.length) := psum_part ps f 0 (by omega)
      have hp2 := psum_part_le ps f 1
      have hp3 : psum ((ps.drop f).take 0) = 0 := by simp [psum]
      obtain ⟨kl, hkl⟩ : ∃ kl, ps[f].ks.length = kl := ⟨_, rfl⟩
      obtain ⟨vl, hvl⟩ : ∃ vl, ps[f].vs.length = vl := ⟨_, rfl⟩
      rw [hkl] at c0 hp1
      rw [hvl] at c1 hp1
      have hb1 : 4 + kl + vl ≤ 1000000 := by have := HM.out; omega
      have HP1 : Hid (psum ((ps.drop f).take 1) = 4 + kl + vl) := Lib.hid (by omega)
      clear hp1 hp2 hp3 hkl hvl
      go_wp2_with fail
      ((with_reducible refine (rsize_any ko vo kl kc vl vc _ (by omega) (by omega)).mono ?_); rintro e w2 ⟨rfl, hk2⟩)
      have HK2 := Lib.hid hk2
      clear hk2 c0 c1
      go_wp2
      go_loopw [5, 6] (fun i s wr => ∃ n : Nat, 1 ≤ n ∧ f + n ≤ N ∧ i = .int .i64 n ∧ (∃ z : Nat, z = psum ((ps.drop f).take n) ∧ s = .int .i64 z) ∧ groupsTo (LeafEnds ps) N (f + n - 1) = (zs, f) ∧ Same wo wr) (fun i _ _ => N - (intOf i).toNat)
      case atStart => exact ⟨1, by omega, by omega, rfl, ⟨4 + kl + vl, HP1.out.symm, by go_num⟩, HG.out, HK2.out⟩
      case round =>
        clear HP1 HK2
        obtain ⟨n, hn1, hnN, rfl, ⟨z, hz, rfl⟩, hg2, hk⟩ := hrel
        have HG2 := Lib.hid hg2
        have HZ := Lib.hid hz
        have HK := Lib.hid hk
        have hzm : z ≤ 1000000 := by have := psum_part_le ps f n; have := HM.out; omega
        clear hg2 hz hk
        have a1 : IntKind.i64.wrap ((f : Int) + (n : Int)) = (f : Int) + (n : Int) := IntWalk.i64_in _ (by omega)
        by_cases qN : (f : Int) + (n : Int) < (N : Int)
        case neg =>
          go_wp2_with (at_builtin; refine wpList_append_int (by rfl) _ _ 29 3 i0 (by rfl) Try.underlying29 hi0 hz0 hz1 hz2 w.heap.size wr.heap.size 1 u3 zs (n : Int) (by rfl) (by rfl) (own_keeps ((Keeps.refl (fun _ => False) _).alloc _) (own_keeps (HK.out) HO.out (fun _ _ e => e)) (fun _ _ e => e)) (heap_alloc_new _ _) (by omega) (by simp; have := HS.out.size; have := (HK.out).size; omega) ?_)
          intro gi ci w8 hown hgrow
          have HS3 := Lib.hid (append_int_same (HS.out.trans (HK.out) (fun _ _ e => e)) _ (own_keeps (HK.out) HO.out (fun _ _ e => e)) (Nat.le_refl _) hgrow)
          have HO3 := Lib.hid hown
          clear hown hgrow
          go_wp2
          go_roundw
          case rel => exact ⟨f + n, by omega, by go_num, zs ++ [(n : Int)], groupsTo_size HG2.out (by omega) (.inl (by omega)), by simp; omega, by rw [List.length_append]; exact HO3.out, HS3.out⟩
          case measure => simp [intOf]; omega

        have s1 : IntKind.i64.wrap ((f : Int) + (n : Int) - 1) = (f : Int) + (n : Int) - 1 := IntWalk.i64_in _ (by omega)
        have s2 : (0 : Int) ≤ (f : Int) + (n : Int) - 1 := by omega
        have s3 : (f : Int) + (n : Int) - 1 < (N : Int) := by omega
        have s4 : ((f : Int) + (n : Int) - 1).toNat = f + n - 1 := by omega
        have hj : f + n - 1 < ps.length := by have := HN.out; omega
        obtain ⟨g1, off1, xo, xc, yo, yc, he1, -, -, x0, x1, bx, -⟩ := (HR.out.same (HS.out.trans HK.out (fun _ _ e => e))).at hj
        simp only [Option.some.injEq, Addr.mk.injEq, and_true] at he1
        obtain ⟨rfl, rfl⟩ := he1
        have hkl2 : ps[f + n - 1].ks.length ≤ 1000000 := by
          have h1 := psum_snoc ps (f + n - 1) hj
          have h2 := psum_take_le ps (f + n - 1 + 1)
          have h3 : psize ps[f + n - 1] = 4 + ps[f + n - 1].ks.length + ps[f + n - 1].vs.length := rfl
          have := HM.out
          omega
        have HE : Hid ((∃ p, ps[f + n - 1]? = some p ∧ MarkOf p.ks 0) ↔ markB ps[f + n - 1].ks 0 = true) := Lib.hid (by
          rw [markB_iff, List.getElem?_eq_getElem hj]
          exact ⟨fun ⟨p, h1, h2⟩ => by rw [Option.some.inj h1]; exact h2, fun h => ⟨_, rfl, h⟩⟩)
        have BX := Lib.hid bx
        generalize ps[f + n - 1] = p at *
        clear bx x1 hj
        have hj2 : f + n < ps.length := by have := HN.out; omega
        obtain ⟨g1, off1, ko, kc, vo, vc, he1, -, -, c0, c1, -, -⟩ := (HR.out.same (HS.out.trans HK.out (fun _ _ e => e))).at hj2
        simp only [Option.some.injEq, Addr.mk.injEq, and_true] at he1
        obtain ⟨rfl, rfl⟩ := he1
        have hp1 := psum_part ps f n hj2
        have hp2 := psum_part_le ps f (n + 1)
        obtain ⟨kl, hkl⟩ : ∃ kl, ps[f + n].ks.length = kl := ⟨_, rfl⟩
        obtain ⟨vl, hvl⟩ : ∃ vl, ps[f + n].vs.length = vl := ⟨_, rfl⟩
        rw [hkl] at c0 hp1
        rw [hvl] at c1 hp1
        have hb1 : z + (4 + kl + vl) ≤ 1000000 := by have := HM.out; have := HZ.out; omega
        have HP1 : Hid (psum ((ps.drop f).take (n + 1)) = z + (4 + kl + vl)) := Lib.hid (by have := HZ.out; omega)
        clear hp1 hp2 hkl hvl hj2
        go_wp2_with fail
        ((with_reducible refine (rmark_b xo p.ks.length xc 0 p.ks _ BX.out rfl (by omega)).mono ?_); rintro e w4 ⟨rfl, hw⟩; replace hw := hw.symm; subst hw)
        generalize markB p.ks 0 = b at *
        cases b with
        | true =>
          have hE := HE.out.2 (by simp)
          have HE2 : Hid (LeafEnds ps f (f + n)) := Lib.hid (.inl hE)
          clear hE
          go_wp2_with (at_builtin; refine wpList_append_int (by rfl) _ _ 29 3 i0 (by rfl) Try.underlying29 hi0 hz0 hz1 hz2 w.heap.size wr.heap.size 1 u3 zs (n : Int) (by rfl) (by rfl) (own_keeps ((Keeps.refl (fun _ => False) _).alloc _) (own_keeps (HK.out) HO.out (fun _ _ e => e)) (fun _ _ e => e)) (heap_alloc_new _ _) (by omega) (by simp; have := HS.out.size; have := (HK.out).size; omega) ?_)
          intro gi ci w8 hown hgrow
          have HS3 := Lib.hid (append_int_same (HS.out.trans (HK.out) (fun _ _ e => e)) _ (own_keeps (HK.out) HO.out (fun _ _ e => e)) (Nat.le_refl _) hgrow)
          have HO3 := Lib.hid hown
          clear hown hgrow
          go_wp2
          go_roundw
          case rel => exact ⟨f + n, by omega, by go_num, zs ++ [(n : Int)], groupsTo_size HG2.out (by omega) (.inr HE2.out), by simp; omega, by rw [List.length_append]; exact HO3.out, HS3.out⟩
          case measure => simp [intOf]; omega

        | false =>
          have HE2 : Hid (¬ ∃ p, ps[f + n - 1]? = some p ∧ MarkOf p.ks 0) := Lib.hid (fun h => by have := HE.out.1 h; simp at this)
          clear HE
          go_wp2_with fail
          ((with_reducible refine (rsize_any ko vo kl kc vl vc _ (by omega) (by omega)).mono ?_); rintro e w5 ⟨rfl, hk5⟩)
          have HK5 := Lib.hid hk5
          have HK6 : Hid (Same wo w5) := Lib.hid (HK.out.trans hk5 (fun _ _ e => e))
          by_cases q2 : (z : Int) + (4 + (kl : Int) + (vl : Int)) ≤ 200
          · have x0' : w5.cell? ⟨g, off + (f + n) * 2, none⟩ = some (.slice ko kl kc) := (World.cell?_of_block (w := wr) (a := ⟨g, off + (f + n) * 2, none⟩) (hk5.block g (World.block_lt_of_cell? wr _ c0) (fun e => e))).trans c0
            have x1' : w5.cell? ⟨g, off + (f + n) * 2 + 1, none⟩ = some (.slice vo vl vc) := (World.cell?_of_block (w := wr) (a := ⟨g, off + (f + n) * 2 + 1, none⟩) (hk5.block g (World.block_lt_of_cell? wr _ c0) (fun e => e))).trans c1
            clear hk5
            go_wp2_with fail
            ((with_reducible refine (rsize_any ko vo kl kc vl vc _ (by omega) (by omega)).mono ?_); rintro e w6 ⟨rfl, hk6⟩)
            have HK7 : Hid (Same wo w6) := Lib.hid (HK6.out.trans hk6 (fun _ _ e => e))
            clear hk6
            have H2 : Hid (¬ LeafEnds ps f (f + n)) := Lib.hid (by
              rintro (h | h)
              · exact HE2.out h
              · rw [show f + n + 1 - f = n + 1 from by omega, HP1.out] at h
                omega)
            go_wp2
            go_roundw
            case rel => exact ⟨n + 1, by omega, by omega, by go_num, ⟨z + (4 + kl + vl), HP1.out.symm, by go_num⟩, groupsTo_more HG2.out hn1 (by omega) H2.out, HK7.out⟩
            case measure => simp [intOf]; omega
          · have HE3 : Hid (LeafEnds ps f (f + n)) := Lib.hid (.inr (by
              rw [show f + n + 1 - f = n + 1 from by omega, HP1.out]
              omega))
            clear hk5
            go_wp2_with (at_builtin; refine wpList_append_int (by rfl) _ _ 29 3 i0 (by rfl) Try.underlying29 hi0 hz0 hz1 hz2 w.heap.size w5.heap.size 1 u3 zs (n : Int) (by rfl) (by rfl) (own_keeps ((Keeps.refl (fun _ => False) _).alloc _) (own_keeps (HK6.out) HO.out (fun _ _ e => e)) (fun _ _ e => e)) (heap_alloc_new _ _) (by omega) (by simp; have := HS.out.size; have := (HK6.out).size; omega) ?_)
            intro gi ci w8 hown hgrow
            have HS3 := Lib.hid (append_int_same (HS.out.trans (HK6.out) (fun _ _ e => e)) _ (own_keeps (HK6.out) HO.out (fun _ _ e => e)) (Nat.le_refl _) hgrow)
            have HO3 := Lib.hid hown
            clear hown hgrow
            go_wp2
            go_roundw
            case rel => exact ⟨f + n, by omega, by go_num, zs ++ [(n : Int)], groupsTo_size HG2.out (by omega) (.inr HE3.out), by simp; omega, by rw [List.length_append]; exact HO3.out, HS3.out⟩
            case measure => simp [intOf]; omega

    · have hfN : f = N := by omega
      subst hfN
      have hz0 : (((zs.length : Nat) : Int) == 0) = false := by
        refine beq_false_of_ne fun h => ?_
        have hz : zs = [] := List.length_eq_zero_iff.1 (by omega)
        have := HG.out
        rw [hz] at this
        have h2 : (groupsTo (LeafEnds ps) f f).1 ≠ [] := by
          obtain ⟨k, rfl⟩ : ∃ k, f = k + 1 := ⟨f - 1, by omega⟩
          rw [groupsTo_end _ _ _ (.inl rfl)]
          simp
        exact h2 (by rw [this])
      have hform : ∃ vo vc, u3 = .slice vo zs.length vc := by
        rcases Ints.of_own HO.out with ⟨a, c, h, _⟩ | ⟨c, h, h0⟩
        · exact ⟨_, _, h⟩
        · rw [h0]; exact ⟨_, _, h⟩
      obtain ⟨vo, vc, rfl⟩ := hform
      go_wp2
      go_ret
      have := HN.out
      have hio : leavesOf ps = zs := by unfold leavesOf; rw [if_neg (by omega), HN.out, HG.out]
      rw [hio]
      exact ⟨_, rfl, HO.out, HS.out⟩

end Go.Proofs.Ytfnbmigldciblaa
