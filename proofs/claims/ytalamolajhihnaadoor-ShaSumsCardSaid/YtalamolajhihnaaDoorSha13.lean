/- The walk of ShaPieces. -/
import Derived.Test.YtalamolajhihnaaDoorSha12
import Derived.Test.YtalamolajhihnaaDoorRows2
namespace Go.Proofs.YtalamolajhihnaaDoor
open Go.RowKit
set_option linter.unusedVariables false

theorem own_cap {w : World} {base : Nat} {e : TypeId} {n g cap : Nat} {xs : List Value} (h : w.ownsRow base e 1 (.slice (some ⟨g, 0, none⟩) n cap) n xs) : n ≤ cap ∧ cap ≤ 9223372036854775807 := by
  rcases h.2 with ⟨h, _⟩ | ⟨g, cp, cur, h, _, _, h2, h3, _⟩
  · simp at h
  · simp only [Value.slice.injEq] at h
    unfold maxLen at h3; omega
theorem own_empty (w : World) (t : TypeId) : (w.alloc (.cells #[] t)).ownsRow w.heap.size t 1 (.slice (some ⟨w.heap.size, 0, none⟩) ([] : List UInt8).length 0) ([] : List UInt8).length (u8s []) := by
  have := World.ownsRow_made (base := w.heap.size) (e := t) (size := 1) w #[] 0 (Nat.le_refl _) (by unfold maxLen; omega) (by simp)
  simpa [u8s] using this

set_option maxRecDepth 100000 in
set_option maxHeartbeats 25600000 in
theorem pieces_any (ao : Option Addr) (N cap : Nat) (rs : List (Value × List UInt8)) (w : World) (hN : Nums w) (hr : Rows2 w (.slice ao N cap) rs) (hn : rs.length = N) (hcap : N ≤ cap) (hcm : cap ≤ 9223372036854775807) :
    Calls Tryd.prog 4 #[.slice ao N cap] w fun e w' => e = .returned (.bool true) ∧ Same w w' := by
  have HN := Lib.hid hN
  have HR := Lib.hid hr
  have HRL := Lib.hid hn
  obtain ⟨i0, hi0, hz0, hz1, hz2⟩ := info_parts (show (Tryd.prog.info? 5).map (fun i => (i.zero, i.size, i.bytes)) = some (some (.int .u8 0), 1, 1) from by kernel_rfl)
  clear hN hr hn
  go_enter Tryd.func4, Tryd.ntmps4
  go_wp2_with fail
  ((with_reducible refine (speaks03 _ HN.out).mono ?_); rintro e w1 ⟨rfl, hk1⟩)
  have HK1 := Lib.hid hk1
  have HN1 : Hid (Nums w1) := Lib.hid (HN.out.keep hk1 (fun e => e))
  clear hk1
  go_wp2_with fail
  ((with_reducible refine (new_any _ (nums_pos HN1.out)).mono ?_); rintro e w2 ⟨rfl, hx2, hk2⟩)
  have HX2 := Lib.hid hx2
  have HK2 : Hid (Same w w2) := Lib.hid (HK1.out.trans hk2 (fun _ _ e => e))
  have hw1 : w.heap.size ≤ w1.heap.size := HK1.out.size
  have hs2 : w1.heap.size < w2.heap.size := hx2.whole.lt
  have HO2 := Lib.hid (own_empty w2 5)
  clear hx2 hk2
  go_wp2
  obtain ⟨B, hB⟩ : ∃ B, w1.heap.size = B := ⟨_, rfl⟩
  rw [hB] at HX2 hs2 hw1 ⊢
  clear hB HK1 HN1
  go_loopw [4, 6, 7, 8, 17] (fun o _ _ _ i wr => ∃ (j : Nat) (al : List UInt8) (g c : Nat), j ≤ N ∧ i = .int .i64 j ∧ o = .slice (some ⟨g, 0, none⟩) al.length c ∧ al.length ≤ 3000 ∧ wr.ownsRow w2.heap.size 5 1 (.slice (some ⟨g, 0, none⟩) al.length c) al.length (u8s al) ∧ HasherAt wr B (feed hs0 al) ∧ Same w wr) (fun _ _ _ _ i _ => N - (intOf i).toNat)
  case atStart => exact ⟨0, [], _, 0, by omega, rfl, rfl, by simp, HO2.out, HX2.out.keep (S := fun _ => False) ((Keeps.refl _ _).alloc _) (fun e => e), HK2.out.alloc _⟩
  case round =>
    clear HX2 HK2 HO2
    obtain ⟨j, al, g, c, hj, rfl, rfl, hal, ho, hx, hk⟩ := hrel
    obtain ⟨wo, rfl⟩ : ∃ wo : World, wo = wr := ⟨_, rfl⟩
    have HO := Lib.hid ho
    have HX := Lib.hid hx
    have HK := Lib.hid hk
    have hgl := ho.lt g rfl
    have HAN : Hid ((feed hs0 al).n = al.length) := Lib.hid (by rw [(feed_len hs0 al).2]; simp [hs0])
    clear ho hx hk
    by_cases hlt : j < N
    · have hjr : j < rs.length := by have := HRL.out; omega
      obtain ⟨a, xo, xc, rfl, -, hcell0, hby⟩ := HR.out.at hjr
      have hcell : wo.cell? (a.add j) = some (.slice xo rs[j].2.length xc) := by
        have hlt := World.block_lt_of_cell? w _ hcell0
        rw [World.cell?_of_block (w := w) (HK.out.block _ hlt (fun e => e))]
        exact hcell0
      have HB : Hid (∀ w', Same w w' → Bytes w' (.slice xo rs[j].2.length xc) rs[j].2) := Lib.hid fun w' k => hby.same k
      generalize rs[j].2 = p at *
      clear hby hjr hcell0
      have hjn : (j : Int) < (N : Int) := by omega
      have hj0 : (0 : Int) ≤ (j : Int) := by omega
      have wd : IntKind.i64.wrap (3000 - (al.length : Int)) = 3000 - (al.length : Int) := IntWalk.i64_in _ (by omega)
      by_cases q : 3000 - (al.length : Int) < (p.length : Int)
      · go_wp2
        go_ret
        exact ⟨rfl, HK.out⟩
      · have HOE := Lib.hid (own_empty wo 5)
        have HBE : Hid (Bytes (wo.alloc (.cells #[] 5)) (.slice xo p.length xc) p) := Lib.hid (HB.out _ (HK.out.alloc _))
        go_wp2_with (at_builtin; refine wpList_append_bytes_g (by rfl) _ _ 22 5 i0 (by rfl) Tryd.underlying22 hi0 hz0 hz1 hz2 wo.heap.size wo.heap.size 0 [] p _ (by rfl) (by rfl) HOE.out HBE.out (by simp; omega) (by simp) ?_)
        intro g1 c1 w3 ho3 hg3 hat3
        try simp only [List.length_nil, Nat.zero_add, List.nil_append] at ho3
        try simp only [List.length_nil, Nat.zero_add]
        have hk3 : Same wo w3 := ((Keeps.refl (fun _ => False) wo).alloc _).grown hg3 (fun k e hk => by simp only [Option.some.injEq] at e; omega)
        have HO3 := Lib.hid ho3
        have HK3 := Lib.hid hk3
        have HX3 : Hid (HasherAt w3 B (feed hs0 al)) := Lib.hid (HX.out.keep hk3 (fun e => e))
        have hgl3 := ho3.lt g1 rfl
        have HC3 := Lib.hid (own_cap ho3)
        have HWK3 : Hid (Same w w3) := Lib.hid (HK.out.trans hk3 (fun _ _ e => e))
        clear ho3 hg3 hat3 hk3 HOE HBE
        go_wp2_with fail
        ((with_reducible refine (add_any B (feed hs0 al) p _ p.length c1 _ HX3.out (HN.out.keep HWK3.out (fun e => e)) (fun w' hk => Bytes.of_own (own_keeps hk HO3.out (fun j e e2 => by have := (HO3.out.lt j e).1; omega))) rfl HC3.out.1 HC3.out.2 (by have := HAN.out; omega)).mono ?_); rintro e w4 ⟨rfl, hx4, hk4⟩)
        rw [← feed_append] at hx4
        have HX4 := Lib.hid hx4
        have HO4 : Hid (w4.ownsRow wo.heap.size 5 1 (.slice (some ⟨g1, 0, none⟩) p.length c1) p.length (u8s p)) := Lib.hid (own_keeps hk4 HO3.out (fun j e e2 => by have := (HO3.out.lt j e).1; omega))
        have HWK4 : Hid (Same w w4) := Lib.hid (HWK3.out.trans hk4 (fun j hj e => by omega))
        have HA4 : Hid (w4.ownsRow w2.heap.size 5 1 (.slice (some ⟨g, 0, none⟩) al.length c) al.length (u8s al)) := Lib.hid (own_keeps hk4 (own_keeps HK3.out HO.out (fun _ _ e => e)) (fun j e e2 => by have := (HO.out.lt j e).1; omega))
        have HB4 : Hid (Bytes w4 (.slice xo p.length xc) p) := Lib.hid (HB.out _ HWK4.out)
        have hs34 := hk4.size
        have hs23 := HK3.out.size
        clear hx4 hk4 HX3 HO3 HWK3
        go_wp2_with (at_builtin; refine wpList_append_bytes_g (by rfl) _ _ 22 5 i0 (by rfl) Tryd.underlying22 hi0 hz0 hz1 hz2 w2.heap.size g c al p _ (by rfl) (by rfl) HA4.out HB4.out (by omega) (by omega) ?_)
        intro g2 c2 w5 ho5 hg5 hat5
        have hkg : Keeps (fun k => k = g) w4 w5 := (Keeps.refl (fun k => k = g) w4).grown hg5 (fun k e _ => by simp only [Option.some.injEq] at e; exact e.symm)
        have hgg := (HO.out.lt g rfl).1
        have hg1 := (HO4.out.lt g1 rfl).1
        have hg12 : ¬ g2 = g1 := by
          have := (HO4.out.lt g1 rfl).2
          rcases hat5 with rfl | rfl <;> omega
        have HA5 : Hid (w5.ownsRow w2.heap.size 5 1 (.slice (some ⟨g2, 0, none⟩) (al ++ p).length c2) (al ++ p).length (u8s (al ++ p))) := Lib.hid (by rw [List.length_append]; exact ho5)
        have HO5 : Hid (w5.ownsRow wo.heap.size 5 1 (.slice (some ⟨g1, 0, none⟩) p.length c1) p.length (u8s p)) := Lib.hid (own_keeps hkg HO4.out (fun j e e2 => by simp only [Value.ownBlock, Option.some.injEq] at e; omega))
        have HX5 : Hid (HasherAt w5 B (feed hs0 (al ++ p))) := Lib.hid (HX4.out.keep hkg (by omega))
        have HWK5 : Hid (Same w w5) := Lib.hid (HWK4.out.trans hkg (fun j hj e => by omega))
        have hs45 := hkg.size
        have hpl : p.length + al.length ≤ 3000 := by omega
        clear ho5 hg5 hat5 hkg HA4 HB4 HO4 HX4 HWK4 HO HX
        go_wp2
        go_loopw [8, 38] (fun _ i wr => ∃ k : Nat, k ≤ p.length ∧ i = .int .i64 k ∧ (∃ bs' : List UInt8, wr.ownsRow wo.heap.size 5 1 (.slice (some ⟨g1, 0, none⟩) p.length c1) p.length (u8s bs')) ∧ Keeps (fun q => q = g1) w5 wr) (fun _ i _ => p.length - (intOf i).toNat)
        case atStart => exact ⟨0, by omega, rfl, ⟨p, HO5.out⟩, Keeps.refl _ _⟩
        case round =>
          clear HO5
          obtain ⟨k, hk, rfl, ⟨bs', hown⟩, hkk⟩ := hrel
          obtain ⟨wp, rfl⟩ : ∃ wp : World, wp = wr := ⟨_, rfl⟩
          have HO6 := Lib.hid hown
          have HK6 := Lib.hid hkk
          by_cases hlt2 : k < p.length
          · obtain ⟨hc, hf⟩ := own_cell hown k hlt2
            have hkl : (k : Int) < (p.length : Int) := by omega
            have hk0 : (0 : Int) ≤ (k : Int) := by omega
            clear hown hkk
            go_wp2
            go_roundw
            case rel => exact ⟨k + 1, by omega, by go_num, ⟨bs'.set k 238, own_set8 238 HO6.out hlt2 (by rfl)⟩, HK6.out.setCell _ _ (.inr rfl)⟩
            case measure => simp [intOf]; omega
          · obtain rfl : k = p.length := by omega
            clear hown hkk
            have HX6 : Hid (HasherAt wp B (feed hs0 (al ++ p))) := Lib.hid (HX5.out.keep HK6.out (by omega))
            have HA6 : Hid (wp.ownsRow w2.heap.size 5 1 (.slice (some ⟨g2, 0, none⟩) (al ++ p).length c2) (al ++ p).length (u8s (al ++ p))) := Lib.hid (own_keeps HK6.out HA5.out (fun j e e2 => by simp only [Value.ownBlock, Option.some.injEq] at e; omega))
            have HWK6 : Hid (Same w wp) := Lib.hid (HWK5.out.trans HK6.out (fun j hj e => by omega))
            have HC6 : Hid ((al ++ p).length ≤ c2 ∧ c2 ≤ 9223372036854775807) := Lib.hid (own_cap HA6.out)
            have HBY6 : Hid (Bytes wp (.slice (some ⟨g2, 0, none⟩) (al.length + p.length) c2) (al ++ p)) := Lib.hid (by rw [← List.length_append]; exact Bytes.of_own HA6.out)
            have HLL : Hid ((al ++ p).length = al.length + p.length) := Lib.hid List.length_append
            have hla := digest_length (feed hs0 (al ++ p))
            generalize hdd : digest (feed hs0 (al ++ p)) = da at hla
            have HD := Lib.hid hdd
            have HEQa := Lib.hid (Tryd.hashSame da hla)
            clear hla hdd HX5 HA5 HWK5 HO6 HK6
            go_wp2_with fail
            ((with_reducible refine (sum_any B (feed hs0 (al ++ p)) _ HX6.out (HN.out.keep HWK6.out (fun e => e))).mono ?_); rintro e w7 ⟨rfl, hk7⟩)
            have HK7 : Hid (Same wp w7) := Lib.hid hk7
            have HWK7 : Hid (Same w w7) := Lib.hid (HWK6.out.trans hk7 (fun _ _ e => e))
            rw [HD.out]
            clear hk7
            have HBY7 : Hid (Bytes w7 (.slice (some ⟨g2, 0, none⟩) (al.length + p.length) c2) (al ++ p)) := Lib.hid (HBY6.out.same HK7.out)
            go_wp2_with fail
            ((with_reducible refine (shaSum_d _ (al.length + p.length) c2 (al ++ p) _ HBY7.out HLL.out (HLL.out ▸ HC6.out.1) HC6.out.2 (by omega) (HN.out.keep HWK7.out (fun e => e))).mono ?_); rintro e w8 ⟨rfl, hk8⟩)
            have HK8 : Hid (Same wp w8) := Lib.hid (HK7.out.trans hk8 (fun _ _ e => e))
            have HWK8 : Hid (Same w w8) := Lib.hid (HWK7.out.trans hk8 (fun _ _ e => e))
            have HX8 : Hid (HasherAt w8 B (feed hs0 (al ++ p))) := Lib.hid (HX6.out.keep HK8.out (fun e => e))
            rw [HD.out]
            clear hk8
            go_wp2_with (refine wpList_neq_same (by rfl) _ _ 25 _ (by rfl) (u8s da).toArray (by rfl) (by rfl) Tryd.hashGuard HEQa.out ?_)
            ((with_reducible refine (sum_any B (feed hs0 (al ++ p)) _ HX8.out (HN.out.keep HWK8.out (fun e => e))).mono ?_); rintro e w9 ⟨rfl, hk9⟩)
            have HK9 : Hid (Same wp w9) := Lib.hid (HK8.out.trans hk9 (fun _ _ e => e))
            have HWK9 : Hid (Same w w9) := Lib.hid (HWK8.out.trans hk9 (fun _ _ e => e))
            have HBY9 : Hid (Bytes w9 (.slice (some ⟨g2, 0, none⟩) (al.length + p.length) c2) (al ++ p)) := Lib.hid (HBY6.out.same HK9.out)
            rw [HD.out]
            clear hk9
            go_wp2_with fail
            ((with_reducible refine (shaSum_d _ (al.length + p.length) c2 (al ++ p) _ HBY9.out HLL.out (HLL.out ▸ HC6.out.1) HC6.out.2 (by omega) (HN.out.keep HWK9.out (fun e => e))).mono ?_); rintro e w10 ⟨rfl, hk10⟩)
            have HK10 : Hid (Same wp w10) := Lib.hid (HK9.out.trans hk10 (fun _ _ e => e))
            have HWK10 : Hid (Same w w10) := Lib.hid (HWK9.out.trans hk10 (fun _ _ e => e))
            rw [HD.out]
            clear hk10
            go_wp2_with (refine wpList_neq_same (by rfl) _ _ 25 _ (by rfl) (u8s da).toArray (by rfl) (by rfl) Tryd.hashGuard HEQa.out ?_)
            go_roundw
            case rel => exact ⟨j + 1, al ++ p, g2, c2, by omega, by go_num, by rw [List.length_append], by rw [List.length_append]; omega, own_keeps HK10.out HA6.out (fun _ _ e => e), HX6.out.keep HK10.out (fun e => e), HWK10.out⟩
            case measure => simp [intOf]; omega
    · obtain rfl : j = N := by omega
      have HC := Lib.hid (own_cap HO.out)
      have HBA : Hid (Bytes wo (.slice (some ⟨g, 0, none⟩) al.length c) al) := Lib.hid (Bytes.of_own HO.out)
      go_wp2_with fail
      ((with_reducible refine (sum_any B (feed hs0 al) _ HX.out (HN.out.keep HK.out (fun e => e))).mono ?_); rintro e w3 ⟨rfl, hk3⟩)
      have HK3 : Hid (Same w w3) := Lib.hid (HK.out.trans hk3 (fun _ _ e => e))
      have HB3 : Hid (Bytes w3 (.slice (some ⟨g, 0, none⟩) al.length c) al) := Lib.hid (HBA.out.same hk3)
      clear hk3
      go_wp2_with fail
      ((with_reducible refine (shaSum_d _ al.length c al _ HB3.out rfl HC.out.1 HC.out.2 (by omega) (HN.out.keep HK3.out (fun e => e))).mono ?_); rintro e w4 ⟨rfl, hk4⟩)
      have HK4 : Hid (Same w w4) := Lib.hid (HK3.out.trans hk4 (fun _ _ e => e))
      clear hk4
      have hla := digest_length (feed hs0 al)
      generalize digest (feed hs0 al) = da at hla ⊢
      have HEQa := Lib.hid (Tryd.hashSame da hla)
      clear hla
      go_wp2_with (refine wpList_eql_same (by rfl) _ _ 25 _ (by rfl) (u8s da).toArray (by rfl) (by rfl) Tryd.hashGuard HEQa.out ?_)
      go_ret
      exact ⟨rfl, HK4.out⟩

end Go.Proofs.YtalamolajhihnaaDoor
