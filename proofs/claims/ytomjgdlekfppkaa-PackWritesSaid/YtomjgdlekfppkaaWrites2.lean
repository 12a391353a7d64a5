/- The walk of PackWrites. -/
import Derived.Test.YtomjgdlekfppkaaWrites1
import Derived.Test.YtomjgdlekfppkaaOrder
import Derived.Deep.RegionWith
namespace Go.Proofs.Ytomjgdlekfppkaa
open Go.RowKit
set_option linter.unusedVariables false

set_option maxRecDepth 100000 in
set_option maxHeartbeats 6400000 in
theorem writes_any (ao : Option Addr) (cap : Nat) (ops : List Opx) (w : World) (h : Script w ao ops) (hl : ops.length ≤ maxLen) :
    Calls Try.prog 3 #[.slice ao ops.length cap] w fun e w' => e = .returned (.bool true) ∧ Same w w' := by
  have HS := Lib.hid h
  clear h
  go_enter Try.func3, Try.ntmps3
  go_wp2_with fail
  ((with_reducible refine (speaks_ok _).mono ?_); rintro e w1 ⟨rfl, hk1⟩)
  have hsc := HS.out.same hk1
  have HK := Lib.hid hk1
  have HS1 := Lib.hid hsc
  clear hk1 hsc
  go_wp2_with fail
  ((with_reducible refine (great_any ao cap ops _ HS1.out hl).mono ?_); rintro e w2 ⟨b, rfl, rfl, hb⟩)
  cases b with
  | true =>
    clear hb
    go_wp2
    go_ret
    exact ⟨rfl, HK.out⟩
  | false =>
    have hw := hb rfl
    have hlen := weight_length ops
    have hlen2 : (ops.length : Int) ≤ 100000 := by omega
    have HW := Lib.hid hw
    clear hb hw hlen
    obtain ⟨i0, hi0, hz0, hz1, hz2⟩ := info_parts Try.info5
    go_wp2
    go_loopw [4, 21] (fun d i wr => ∃ j : Nat, j ≤ ops.length ∧ i = .int .i64 j ∧ ∃ xs, Both w1 wr w1.heap.size d xs ∧ xs.length ≤ weight (ops.take j)) (fun _ i _ => ops.length - (intOf i).toNat)
    case atStart => exact ⟨0, by omega, rfl, [], Both.start w1, by simp⟩
    case round =>
      obtain ⟨j, hj, rfl, xs, hh, hxl⟩ := hrel
      by_cases hlt : j < ops.length
      · rcases HS1.out with h0 | ⟨g, off, rfl, hall⟩
        · subst h0; simp at hlt
        have hsame := hh.same
        have ho := (hall j hlt).below hsame.below
        obtain ⟨bo, bc, hform⟩ := ho.bytes.form
        have hc0 := ho.c0
        have hc1 := ho.c1
        have hc2 := ho.c2
        have hc3 := ho.c3
        rw [hform] at hc3
        have hsn := weight_snoc ops j hlt
        have hwt := weight_take ops (j + 1)
        have HB1 : Hid (Bytes w1 ops[j].val ops[j].bs) := Lib.hid (hall j hlt).bytes
        have HSP : Hid (∀ a n c, ops[j].val = .slice (some a) n c → ops[j].bs ≠ [] → a.spot = none) := Lib.hid (hall j hlt).spot
        have hk3 := mask3 ops[j].kind
        have hsmall : ops[j].num < 18446744073709551616 := ho.small
        have HSM := Lib.hid hsmall
        have HF := Lib.hid hform
        obtain ⟨row, gd, dcap, rfl, hp, hd, hr⟩ := hh.ex
        have hbp : w1.heap.size < wr.heap.size := by have := hp.lt; have := hp.hb; omega
        have hgd := hd.lt gd rfl
        have HP := Lib.hid hp
        have HD := Lib.hid hd
        have HR := Lib.hid hr
        have HSA := Lib.hid hsame
        have HRL := Lib.hid hp.row_lt
        have hbl : xs.length + ops[j].bs.length + 10 ≤ 1000000 := by have := HW.out; omega
        have HN : Hid (xs.length + ops[j].bs.length + 10 ≤ weight (ops.take (j + 1))) := Lib.hid (by omega)
        generalize ops[j] = o at *
        clear ho hall hh hp hd hr hsame hform hsn hwt hsmall hxl
        have hbw : ∀ x y, Bytes ((wr.alloc x).alloc y) (.slice bo o.bs.length bc) o.bs := fun x y => by rw [← HF.out]; exact HB1.out.same ((HSA.out.alloc _).alloc _)
        have HBW := Lib.hid hbw
        have hbo : ∀ x, ((wr.alloc x).alloc (.cells #[] 5)).ownsRow (wr.heap.size + 1) 5 1 (.slice (some ⟨wr.heap.size + 1, 0, none⟩) ([] : List UInt8).length 0) ([] : List UInt8).length (u8s []) := fun x => by
          have := World.ownsRow_made (base := wr.heap.size + 1) (e := 5) (size := 1) (wr.alloc x) #[] 0 (by simp) (by unfold maxLen; omega) (by simp)
          simpa [u8s] using this
        have HBO := Lib.hid hbo
        clear hbw hbo
        go_wp2_with (at_builtin; refine wpList_append_bytes (by rfl) _ _ 26 5 i0 (by rfl) Try.underlying26 hi0 hz0 hz1 hz2 (wr.heap.size + 1) (wr.heap.size + 1) 0 [] o.bs (.slice bo o.bs.length bc) (by rfl) (by rfl) (HBO.out _) (HBW.out _ _) (by simp; omega) (by simp) ?_)
        intro gb cb w3 hob hg3 hat3

        have hgb := hob.lt gb rfl
        have HOB := Lib.hid hob
        have HG3 := Lib.hid hg3
        have hz3 : wr.heap.size + 1 < w3.heap.size := by have := hg3.size; simp at this; omega
        have hz4 : wr.heap.size < w3.heap.size := by omega
        obtain ⟨e0, e1, e2, e3⟩ := cell_of_four (blk_three hg3)
        have HPA : Hid (∀ y, Pen 28 5 (w3.alloc y) w1.heap.size (w1.heap.size + 1) row xs) := Lib.hid (pen_three HP.out hg3)
        clear hob hg3 hat3 hc0 hc1 hc2 hc3
        rcases hk3 with hk3 | hk3 | hk3 | hk3
        · by_cases hg : 1 ≤ o.size ∧ o.size ≤ 8 ∧ o.num < 256 ^ o.size.toNat
          · have HGG := Lib.hid hg
            clear hg
            go_wp2_with fail
            ((with_reducible refine (uint_ok' w1.heap.size (w1.heap.size + 1) row xs o.num o.size.toNat _ _ _ (HPA.out _) (by omega) (by have := HGG.out; omega) (by have := HGG.out; omega) HGG.out.2.2 (by omega) (by have := HGG.out; omega)).mono ?_); rintro e w5 ⟨rfl, hs⟩)
            have HS5 := Lib.hid hs
            clear hs e0 e1 e2 e3
            obtain ⟨a0, a1, a2, a3⟩ := cell_of_four (blk_step HP.out HG3.out HS5.out)
            go_wp2_with fail
            ((with_reducible refine (ref_uint_any' o.num o.size.toNat _ _ (by have := HGG.out; omega) (by have := HGG.out; omega) _ HSM.out (by omega) (by have := HGG.out; omega)).mono ?_); rintro e w6 ⟨hk6, hp6⟩)
            rcases hp6 with ⟨_, gm, cm, rfl, hm⟩ | ⟨h, _⟩
            · have HM6 := Lib.hid hm
              have HK6 := Lib.hid hk6
              clear hk6 hm a0 a1 a2 a3
              obtain ⟨add, hal, HY⟩ : ∃ add : List UInt8, add.length ≤ o.bs.length + 10 ∧ Hid (Ready w1 wr w6 w1.heap.size gd dcap gb cb xs add o bo bc (.slice (some ⟨gm, 0, none⟩) o.size.toNat cm)) :=
                ⟨be o.num o.size.toNat, by rw [be_length]; have := HGG.out; omega, Lib.hid (ready_of HSA.out (Nat.le_refl _) HP.out HD.out HR.out HOB.out HG3.out HS5.out HK6.out (Bytes.of_own' HM6.out (be_length _ _)) HB1.out HF.out)⟩

              obtain ⟨a0, a1, a2, a3⟩ := cell_of_four HY.out.oblk
              have hb6 : w1.heap.size + 1 ≤ w6.heap.size := by have := (HY.out.want.lt gd rfl); omega
              go_wp2_with (at_builtin; refine wpList_append_bytes (by rfl) _ _ 26 5 i0 (by rfl) Try.underlying26 hi0 hz0 hz1 hz2 (w1.heap.size + 1) gd dcap xs add (.slice (some ⟨gm, 0, none⟩) o.size.toNat cm) (by rfl) (by rfl) HY.out.want HY.out.more (by omega) hb6 ?_)
              intro gd' cap' w7 how hg7 hat7
              obtain ⟨row7, row6, hlat, hkk, hrr⟩ := HY.out.later how hg7 hat7
              have HL := Lib.hid hlat
              have HKK := Lib.hid hkk
              have HRR := Lib.hid hrr
              clear a0 a1 a2 a3 how hg7 hat7 hlat hkk hrr hb6
              obtain ⟨b0, b1, b2, b3⟩ := cell_of_four HL.out.oblk
              go_wp2_with fail
              ((with_reducible refine (data_any w1.heap.size (w1.heap.size + 1) row6 (xs ++ add) _ HL.out.pen (by rw [List.length_append]; omega)).mono ?_); rintro e w8 ⟨d8, rfl, ho8, hk8⟩)
              have hw8 : w8.ownsRow (w1.heap.size + 1) 5 1 (.slice (some ⟨gd', 0, none⟩) (xs.length + add.length) cap') (xs ++ add).length (u8s (xs ++ add)) := by rw [List.length_append]; exact own_keeps hk8 HL.out.want (fun _ _ e => e)
              have hb8 := own_keeps hk8 HL.out.bown (fun _ _ e => e)
              have cv1 := run_string_own (P := Try.prog) 26 9 5 ho8 Try.underlying26 Try.underlying5 Try.underlying9
              have cv2 := run_string_own (P := Try.prog) 26 9 5 hw8 Try.underlying26 Try.underlying5 Try.underlying9
              have cv3 := run_string_own (P := Try.prog) 26 9 5 hb8 Try.underlying26 Try.underlying5 Try.underlying9
              have cv4 := run_obs (HL.out.obs.same hk8) HF.out HSP.out
              have hb9 : ∀ w9, Keeps (RowOf d8) w8 w9 → w9.ownsRow (w1.heap.size + 1) 5 1 (.slice (some ⟨gb, 0, none⟩) o.bs.length cb) o.bs.length (u8s o.bs) := fun w9 hk9 => own_keeps hk9 hb8 (fun k e h => by
                have h1 := (ho8.lt k h).1
                have h2 := (HL.out.bown.lt k e).2
                omega)
              have HB9 := Lib.hid hb9
              have HO8 := Lib.hid ho8
              have HK8 := Lib.hid hk8
              have hoblk8 := hk8.obj HL.out.oblk (fun e => e)
              clear b0 b1 b2 b3 hw8 hb8 ho8 hk8 hb9
              obtain ⟨b0, b1, b2, b3⟩ := cell_of_four hoblk8
              clear hoblk8
              go_wp2_with fail
              ((with_reducible refine (spoil_any _ d8 (xs ++ add) _ HO8.out (by rw [List.length_append]; unfold maxLen; omega)).mono ?_); rintro e w9 ⟨rfl, hk9⟩)
              have HK9 := Lib.hid hk9
              clear hk9 cv1 cv2 cv3 cv4 b0 b1 b2 b3
              go_wp2_with fail
              ((with_reducible refine (spoil_any (w1.heap.size + 1) (.slice (some ⟨gb, 0, none⟩) o.bs.length cb) o.bs _ (HB9.out _ HK9.out) (by unfold maxLen; omega)).mono ?_); rintro e w10 ⟨rfl, hk10⟩)
              have HK10 := Lib.hid hk10
              clear hk10
              go_wp2
              go_roundw
              case rel => exact ⟨j + 1, by omega, by go_num, xs ++ add, HL.out.finish HKK.out HRR.out HY.out.n6 HY.out.n5 HY.out.n7 HY.out.n3 HY.out.n1 HK8.out (fun k e => (HO8.out.lt k e).1) HK9.out HK10.out, by rw [List.length_append]; have := HN.out; omega⟩
              case measure => simp [intOf]; omega
            · exact absurd HGG.out.2.2 h
          · by_cases h18 : o.size < 1 ∨ 8 < o.size
            · have H18 := Lib.hid h18
              clear h18
              go_wp2_with fail
              ((with_reducible refine (uint_size _ _ _ H18.out _).mono ?_); rintro e w5 ⟨rfl, rfl⟩)
              go_wp2_with fail
              ((with_reducible refine (ref_uint_size _ _ H18.out _).mono ?_); rintro e w6 ⟨gm, rfl, hk6, _⟩)
              have HK6 := Lib.hid hk6
              clear hk6 e0 e1 e2 e3

              obtain ⟨add, hal, HY⟩ : ∃ add : List UInt8, add.length ≤ o.bs.length + 10 ∧ Hid (Ready w1 wr w6 w1.heap.size gd dcap gb cb xs add o bo bc (.slice (some ⟨gm, 0, none⟩) 0 0)) :=
                ⟨[], by simp, Lib.hid (ready_of HSA.out (Nat.le_refl _) HP.out HD.out HR.out HOB.out HG3.out (Step.nothing (HPA.out _) (Keeps.refl _ _)) HK6.out (Bytes.nil _ _ _) HB1.out HF.out)⟩

              obtain ⟨a0, a1, a2, a3⟩ := cell_of_four HY.out.oblk
              have hb6 : w1.heap.size + 1 ≤ w6.heap.size := by have := (HY.out.want.lt gd rfl); omega
              go_wp2_with (at_builtin; refine wpList_append_bytes (by rfl) _ _ 26 5 i0 (by rfl) Try.underlying26 hi0 hz0 hz1 hz2 (w1.heap.size + 1) gd dcap xs add (.slice (some ⟨gm, 0, none⟩) 0 0) (by rfl) (by rfl) HY.out.want HY.out.more (by omega) hb6 ?_)
              intro gd' cap' w7 how hg7 hat7
              obtain ⟨row7, row6, hlat, hkk, hrr⟩ := HY.out.later how hg7 hat7
              have HL := Lib.hid hlat
              have HKK := Lib.hid hkk
              have HRR := Lib.hid hrr
              clear a0 a1 a2 a3 how hg7 hat7 hlat hkk hrr hb6
              obtain ⟨b0, b1, b2, b3⟩ := cell_of_four HL.out.oblk
              go_wp2_with fail
              ((with_reducible refine (data_any w1.heap.size (w1.heap.size + 1) row6 (xs ++ add) _ HL.out.pen (by rw [List.length_append]; omega)).mono ?_); rintro e w8 ⟨d8, rfl, ho8, hk8⟩)
              have hw8 : w8.ownsRow (w1.heap.size + 1) 5 1 (.slice (some ⟨gd', 0, none⟩) (xs.length + add.length) cap') (xs ++ add).length (u8s (xs ++ add)) := by rw [List.length_append]; exact own_keeps hk8 HL.out.want (fun _ _ e => e)
              have hb8 := own_keeps hk8 HL.out.bown (fun _ _ e => e)
              have cv1 := run_string_own (P := Try.prog) 26 9 5 ho8 Try.underlying26 Try.underlying5 Try.underlying9
              have cv2 := run_string_own (P := Try.prog) 26 9 5 hw8 Try.underlying26 Try.underlying5 Try.underlying9
              have cv3 := run_string_own (P := Try.prog) 26 9 5 hb8 Try.underlying26 Try.underlying5 Try.underlying9
              have cv4 := run_obs (HL.out.obs.same hk8) HF.out HSP.out
              have hb9 : ∀ w9, Keeps (RowOf d8) w8 w9 → w9.ownsRow (w1.heap.size + 1) 5 1 (.slice (some ⟨gb, 0, none⟩) o.bs.length cb) o.bs.length (u8s o.bs) := fun w9 hk9 => own_keeps hk9 hb8 (fun k e h => by
                have h1 := (ho8.lt k h).1
                have h2 := (HL.out.bown.lt k e).2
                omega)
              have HB9 := Lib.hid hb9
              have HO8 := Lib.hid ho8
              have HK8 := Lib.hid hk8
              have hoblk8 := hk8.obj HL.out.oblk (fun e => e)
              clear b0 b1 b2 b3 hw8 hb8 ho8 hk8 hb9
              obtain ⟨b0, b1, b2, b3⟩ := cell_of_four hoblk8
              clear hoblk8
              go_wp2_with fail
              ((with_reducible refine (spoil_any _ d8 (xs ++ add) _ HO8.out (by rw [List.length_append]; unfold maxLen; omega)).mono ?_); rintro e w9 ⟨rfl, hk9⟩)
              have HK9 := Lib.hid hk9
              clear hk9 cv1 cv2 cv3 cv4 b0 b1 b2 b3
              go_wp2_with fail
              ((with_reducible refine (spoil_any (w1.heap.size + 1) (.slice (some ⟨gb, 0, none⟩) o.bs.length cb) o.bs _ (HB9.out _ HK9.out) (by unfold maxLen; omega)).mono ?_); rintro e w10 ⟨rfl, hk10⟩)
              have HK10 := Lib.hid hk10
              clear hk10
              go_wp2
              go_roundw
              case rel => exact ⟨j + 1, by omega, by go_num, xs ++ add, HL.out.finish HKK.out HRR.out HY.out.n6 HY.out.n5 HY.out.n7 HY.out.n3 HY.out.n1 HK8.out (fun k e => (HO8.out.lt k e).1) HK9.out HK10.out, by rw [List.length_append]; have := HN.out; omega⟩
              case measure => simp [intOf]; omega
            · obtain ⟨sz, hsz⟩ := Int.eq_ofNat_of_zero_le (show 0 ≤ o.size by omega)
              have hne : ¬ o.num < 256 ^ sz := by
                intro hlt2
                exact hg ⟨by omega, by omega, by rw [hsz]; exact hlt2⟩
              have hs8 : sz < 8 := by
                rcases Nat.lt_or_ge sz 8 with h | h
                · exact h
                · have h8 : sz = 8 := by omega
                  subst h8
                  exact absurd HSM.out (by omega)
              have HGT : Hid (((o.num : Int) / 2 ^ (8 * o.size).toNat != 0) = true) := Lib.hid (by rw [hsz]; exact great_of o.num sz hne)
              have H1 : Hid (1 ≤ o.size ∧ o.size < 8 ∧ o.size = (sz : Int) ∧ ¬ o.num < 256 ^ sz) := Lib.hid ⟨by omega, by omega, hsz, hne⟩
              clear hsz hne hs8 h18 hg
              go_wp2_with fail
              ((with_reducible refine (uint_great _ _ _ H1.out.1 H1.out.2.1 _ HGT.out).mono ?_); rintro e w5 ⟨rfl, rfl⟩)
              go_wp2_with fail
              ((with_reducible refine (ref_uint_any' o.num sz _ _ (by have := H1.out; omega) (by have := H1.out; omega) _ HSM.out (by omega) H1.out.2.2.1).mono ?_); rintro e w6 ⟨hk6, hp6⟩)
              rcases hp6 with ⟨h, _⟩ | ⟨_, gm, rfl, _⟩
              · exact absurd h H1.out.2.2.2
              · have HK6 := Lib.hid hk6
                clear hk6 e0 e1 e2 e3
                obtain ⟨add, hal, HY⟩ : ∃ add : List UInt8, add.length ≤ o.bs.length + 10 ∧ Hid (Ready w1 wr w6 w1.heap.size gd dcap gb cb xs add o bo bc (.slice (some ⟨gm, 0, none⟩) 0 0)) :=
                  ⟨[], by simp, Lib.hid (ready_of HSA.out (Nat.le_refl _) HP.out HD.out HR.out HOB.out HG3.out (Step.nothing (HPA.out _) (Keeps.refl _ _)) HK6.out (Bytes.nil _ _ _) HB1.out HF.out)⟩

                obtain ⟨a0, a1, a2, a3⟩ := cell_of_four HY.out.oblk
                have hb6 : w1.heap.size + 1 ≤ w6.heap.size := by have := (HY.out.want.lt gd rfl); omega
                go_wp2_with (at_builtin; refine wpList_append_bytes (by rfl) _ _ 26 5 i0 (by rfl) Try.underlying26 hi0 hz0 hz1 hz2 (w1.heap.size + 1) gd dcap xs add (.slice (some ⟨gm, 0, none⟩) 0 0) (by rfl) (by rfl) HY.out.want HY.out.more (by omega) hb6 ?_)
                intro gd' cap' w7 how hg7 hat7
                obtain ⟨row7, row6, hlat, hkk, hrr⟩ := HY.out.later how hg7 hat7
                have HL := Lib.hid hlat
                have HKK := Lib.hid hkk
                have HRR := Lib.hid hrr
                clear a0 a1 a2 a3 how hg7 hat7 hlat hkk hrr hb6
                obtain ⟨b0, b1, b2, b3⟩ := cell_of_four HL.out.oblk
                go_wp2_with fail
                ((with_reducible refine (data_any w1.heap.size (w1.heap.size + 1) row6 (xs ++ add) _ HL.out.pen (by rw [List.length_append]; omega)).mono ?_); rintro e w8 ⟨d8, rfl, ho8, hk8⟩)
                have hw8 : w8.ownsRow (w1.heap.size + 1) 5 1 (.slice (some ⟨gd', 0, none⟩) (xs.length + add.length) cap') (xs ++ add).length (u8s (xs ++ add)) := by rw [List.length_append]; exact own_keeps hk8 HL.out.want (fun _ _ e => e)
                have hb8 := own_keeps hk8 HL.out.bown (fun _ _ e => e)
                have cv1 := run_string_own (P := Try.prog) 26 9 5 ho8 Try.underlying26 Try.underlying5 Try.underlying9
                have cv2 := run_string_own (P := Try.prog) 26 9 5 hw8 Try.underlying26 Try.underlying5 Try.underlying9
                have cv3 := run_string_own (P := Try.prog) 26 9 5 hb8 Try.underlying26 Try.underlying5 Try.underlying9
                have cv4 := run_obs (HL.out.obs.same hk8) HF.out HSP.out
                have hb9 : ∀ w9, Keeps (RowOf d8) w8 w9 → w9.ownsRow (w1.heap.size + 1) 5 1 (.slice (some ⟨gb, 0, none⟩) o.bs.length cb) o.bs.length (u8s o.bs) := fun w9 hk9 => own_keeps hk9 hb8 (fun k e h => by
                  have h1 := (ho8.lt k h).1
                  have h2 := (HL.out.bown.lt k e).2
                  omega)
                have HB9 := Lib.hid hb9
                have HO8 := Lib.hid ho8
                have HK8 := Lib.hid hk8
                have hoblk8 := hk8.obj HL.out.oblk (fun e => e)
                clear b0 b1 b2 b3 hw8 hb8 ho8 hk8 hb9
                obtain ⟨b0, b1, b2, b3⟩ := cell_of_four hoblk8
                clear hoblk8
                go_wp2_with fail
                ((with_reducible refine (spoil_any _ d8 (xs ++ add) _ HO8.out (by rw [List.length_append]; unfold maxLen; omega)).mono ?_); rintro e w9 ⟨rfl, hk9⟩)
                have HK9 := Lib.hid hk9
                clear hk9 cv1 cv2 cv3 cv4 b0 b1 b2 b3
                go_wp2_with fail
                ((with_reducible refine (spoil_any (w1.heap.size + 1) (.slice (some ⟨gb, 0, none⟩) o.bs.length cb) o.bs _ (HB9.out _ HK9.out) (by unfold maxLen; omega)).mono ?_); rintro e w10 ⟨rfl, hk10⟩)
                have HK10 := Lib.hid hk10
                clear hk10
                go_wp2
                go_roundw
                case rel => exact ⟨j + 1, by omega, by go_num, xs ++ add, HL.out.finish HKK.out HRR.out HY.out.n6 HY.out.n5 HY.out.n7 HY.out.n3 HY.out.n1 HK8.out (fun k e => (HO8.out.lt k e).1) HK9.out HK10.out, by rw [List.length_append]; have := HN.out; omega⟩
                case measure => simp [intOf]; omega
        · by_cases hg : 1 ≤ o.size ∧ o.size ≤ 8 ∧ o.num < 256 ^ o.size.toNat
          · have HGG := Lib.hid hg
            clear hg
            go_wp2_with fail
            ((with_reducible refine (uint_ok' w1.heap.size (w1.heap.size + 1) row xs o.num o.size.toNat _ _ _ (HPA.out _) (by omega) (by have := HGG.out; omega) (by have := HGG.out; omega) HGG.out.2.2 (by omega) (by have := HGG.out; omega)).mono ?_); rintro e w5 ⟨rfl, hs⟩)
            have HS5 := Lib.hid hs
            clear hs e0 e1 e2 e3
            obtain ⟨a0, a1, a2, a3⟩ := cell_of_four (blk_step HP.out HG3.out HS5.out)
            go_wp2_with fail
            ((with_reducible refine (ref_uint_any' o.num o.size.toNat _ _ (by have := HGG.out; omega) (by have := HGG.out; omega) _ HSM.out (by omega) (by have := HGG.out; omega)).mono ?_); rintro e w6 ⟨hk6, hp6⟩)
            rcases hp6 with ⟨_, gm, cm, rfl, hm⟩ | ⟨h, _⟩
            · have HM6 := Lib.hid hm
              have HK6 := Lib.hid hk6
              clear hk6 hm a0 a1 a2 a3
              obtain ⟨add, hal, HY⟩ : ∃ add : List UInt8, add.length ≤ o.bs.length + 10 ∧ Hid (Ready w1 wr w6 w1.heap.size gd dcap gb cb xs add o bo bc (.slice (some ⟨gm, 0, none⟩) o.size.toNat cm)) :=
                ⟨be o.num o.size.toNat, by rw [be_length]; have := HGG.out; omega, Lib.hid (ready_of HSA.out (Nat.le_refl _) HP.out HD.out HR.out HOB.out HG3.out HS5.out HK6.out (Bytes.of_own' HM6.out (be_length _ _)) HB1.out HF.out)⟩

              obtain ⟨a0, a1, a2, a3⟩ := cell_of_four HY.out.oblk
              have hb6 : w1.heap.size + 1 ≤ w6.heap.size := by have := (HY.out.want.lt gd rfl); omega
              go_wp2_with (at_builtin; refine wpList_append_bytes (by rfl) _ _ 26 5 i0 (by rfl) Try.underlying26 hi0 hz0 hz1 hz2 (w1.heap.size + 1) gd dcap xs add (.slice (some ⟨gm, 0, none⟩) o.size.toNat cm) (by rfl) (by rfl) HY.out.want HY.out.more (by omega) hb6 ?_)
              intro gd' cap' w7 how hg7 hat7
              obtain ⟨row7, row6, hlat, hkk, hrr⟩ := HY.out.later how hg7 hat7
              have HL := Lib.hid hlat
              have HKK := Lib.hid hkk
              have HRR := Lib.hid hrr
              clear a0 a1 a2 a3 how hg7 hat7 hlat hkk hrr hb6
              obtain ⟨b0, b1, b2, b3⟩ := cell_of_four HL.out.oblk
              go_wp2_with fail
              ((with_reducible refine (data_any w1.heap.size (w1.heap.size + 1) row6 (xs ++ add) _ HL.out.pen (by rw [List.length_append]; omega)).mono ?_); rintro e w8 ⟨d8, rfl, ho8, hk8⟩)
              have hw8 : w8.ownsRow (w1.heap.size + 1) 5 1 (.slice (some ⟨gd', 0, none⟩) (xs.length + add.length) cap') (xs ++ add).length (u8s (xs ++ add)) := by rw [List.length_append]; exact own_keeps hk8 HL.out.want (fun _ _ e => e)
              have hb8 := own_keeps hk8 HL.out.bown (fun _ _ e => e)
              have cv1 := run_string_own (P := Try.prog) 26 9 5 ho8 Try.underlying26 Try.underlying5 Try.underlying9
              have cv2 := run_string_own (P := Try.prog) 26 9 5 hw8 Try.underlying26 Try.underlying5 Try.underlying9
              have cv3 := run_string_own (P := Try.prog) 26 9 5 hb8 Try.underlying26 Try.underlying5 Try.underlying9
              have cv4 := run_obs (HL.out.obs.same hk8) HF.out HSP.out
              have hb9 : ∀ w9, Keeps (RowOf d8) w8 w9 → w9.ownsRow (w1.heap.size + 1) 5 1 (.slice (some ⟨gb, 0, none⟩) o.bs.length cb) o.bs.length (u8s o.bs) := fun w9 hk9 => own_keeps hk9 hb8 (fun k e h => by
                have h1 := (ho8.lt k h).1
                have h2 := (HL.out.bown.lt k e).2
                omega)
              have HB9 := Lib.hid hb9
              have HO8 := Lib.hid ho8
              have HK8 := Lib.hid hk8
              have hoblk8 := hk8.obj HL.out.oblk (fun e => e)
              clear b0 b1 b2 b3 hw8 hb8 ho8 hk8 hb9
              obtain ⟨b0, b1, b2, b3⟩ := cell_of_four hoblk8
              clear hoblk8
              go_wp2_with fail
              ((with_reducible refine (spoil_any _ d8 (xs ++ add) _ HO8.out (by rw [List.length_append]; unfold maxLen; omega)).mono ?_); rintro e w9 ⟨rfl, hk9⟩)
              have HK9 := Lib.hid hk9
              clear hk9 cv1 cv2 cv3 cv4 b0 b1 b2 b3
              go_wp2_with fail
              ((with_reducible refine (spoil_any (w1.heap.size + 1) (.slice (some ⟨gb, 0, none⟩) o.bs.length cb) o.bs _ (HB9.out _ HK9.out) (by unfold maxLen; omega)).mono ?_); rintro e w10 ⟨rfl, hk10⟩)
              have HK10 := Lib.hid hk10
              clear hk10
              go_wp2
              go_roundw
              case rel => exact ⟨j + 1, by omega, by go_num, xs ++ add, HL.out.finish HKK.out HRR.out HY.out.n6 HY.out.n5 HY.out.n7 HY.out.n3 HY.out.n1 HK8.out (fun k e => (HO8.out.lt k e).1) HK9.out HK10.out, by rw [List.length_append]; have := HN.out; omega⟩
              case measure => simp [intOf]; omega
            · exact absurd HGG.out.2.2 h
          · by_cases h18 : o.size < 1 ∨ 8 < o.size
            · have H18 := Lib.hid h18
              clear h18
              go_wp2_with fail
              ((with_reducible refine (uint_size _ _ _ H18.out _).mono ?_); rintro e w5 ⟨rfl, rfl⟩)
              go_wp2_with fail
              ((with_reducible refine (ref_uint_size _ _ H18.out _).mono ?_); rintro e w6 ⟨gm, rfl, hk6, _⟩)
              have HK6 := Lib.hid hk6
              clear hk6 e0 e1 e2 e3

              obtain ⟨add, hal, HY⟩ : ∃ add : List UInt8, add.length ≤ o.bs.length + 10 ∧ Hid (Ready w1 wr w6 w1.heap.size gd dcap gb cb xs add o bo bc (.slice (some ⟨gm, 0, none⟩) 0 0)) :=
                ⟨[], by simp, Lib.hid (ready_of HSA.out (Nat.le_refl _) HP.out HD.out HR.out HOB.out HG3.out (Step.nothing (HPA.out _) (Keeps.refl _ _)) HK6.out (Bytes.nil _ _ _) HB1.out HF.out)⟩

              obtain ⟨a0, a1, a2, a3⟩ := cell_of_four HY.out.oblk
              have hb6 : w1.heap.size + 1 ≤ w6.heap.size := by have := (HY.out.want.lt gd rfl); omega
              go_wp2_with (at_builtin; refine wpList_append_bytes (by rfl) _ _ 26 5 i0 (by rfl) Try.underlying26 hi0 hz0 hz1 hz2 (w1.heap.size + 1) gd dcap xs add (.slice (some ⟨gm, 0, none⟩) 0 0) (by rfl) (by rfl) HY.out.want HY.out.more (by omega) hb6 ?_)
              intro gd' cap' w7 how hg7 hat7
              obtain ⟨row7, row6, hlat, hkk, hrr⟩ := HY.out.later how hg7 hat7
              have HL := Lib.hid hlat
              have HKK := Lib.hid hkk
              have HRR := Lib.hid hrr
              clear a0 a1 a2 a3 how hg7 hat7 hlat hkk hrr hb6
              obtain ⟨b0, b1, b2, b3⟩ := cell_of_four HL.out.oblk
              go_wp2_with fail
              ((with_reducible refine (data_any w1.heap.size (w1.heap.size + 1) row6 (xs ++ add) _ HL.out.pen (by rw [List.length_append]; omega)).mono ?_); rintro e w8 ⟨d8, rfl, ho8, hk8⟩)
              have hw8 : w8.ownsRow (w1.heap.size + 1) 5 1 (.slice (some ⟨gd', 0, none⟩) (xs.length + add.length) cap') (xs ++ add).length (u8s (xs ++ add)) := by rw [List.length_append]; exact own_keeps hk8 HL.out.want (fun _ _ e => e)
              have hb8 := own_keeps hk8 HL.out.bown (fun _ _ e => e)
              have cv1 := run_string_own (P := Try.prog) 26 9 5 ho8 Try.underlying26 Try.underlying5 Try.underlying9
              have cv2 := run_string_own (P := Try.prog) 26 9 5 hw8 Try.underlying26 Try.underlying5 Try.underlying9
              have cv3 := run_string_own (P := Try.prog) 26 9 5 hb8 Try.underlying26 Try.underlying5 Try.underlying9
              have cv4 := run_obs (HL.out.obs.same hk8) HF.out HSP.out
              have hb9 : ∀ w9, Keeps (RowOf d8) w8 w9 → w9.ownsRow (w1.heap.size + 1) 5 1 (.slice (some ⟨gb, 0, none⟩) o.bs.length cb) o.bs.length (u8s o.bs) := fun w9 hk9 => own_keeps hk9 hb8 (fun k e h => by
                have h1 := (ho8.lt k h).1
                have h2 := (HL.out.bown.lt k e).2
                omega)
              have HB9 := Lib.hid hb9
              have HO8 := Lib.hid ho8
              have HK8 := Lib.hid hk8
              have hoblk8 := hk8.obj HL.out.oblk (fun e => e)
              clear b0 b1 b2 b3 hw8 hb8 ho8 hk8 hb9
              obtain ⟨b0, b1, b2, b3⟩ := cell_of_four hoblk8
              clear hoblk8
              go_wp2_with fail
              ((with_reducible refine (spoil_any _ d8 (xs ++ add) _ HO8.out (by rw [List.length_append]; unfold maxLen; omega)).mono ?_); rintro e w9 ⟨rfl, hk9⟩)
              have HK9 := Lib.hid hk9
              clear hk9 cv1 cv2 cv3 cv4 b0 b1 b2 b3
              go_wp2_with fail
              ((with_reducible refine (spoil_any (w1.heap.size + 1) (.slice (some ⟨gb, 0, none⟩) o.bs.length cb) o.bs _ (HB9.out _ HK9.out) (by unfold maxLen; omega)).mono ?_); rintro e w10 ⟨rfl, hk10⟩)
              have HK10 := Lib.hid hk10
              clear hk10
              go_wp2
              go_roundw
              case rel => exact ⟨j + 1, by omega, by go_num, xs ++ add, HL.out.finish HKK.out HRR.out HY.out.n6 HY.out.n5 HY.out.n7 HY.out.n3 HY.out.n1 HK8.out (fun k e => (HO8.out.lt k e).1) HK9.out HK10.out, by rw [List.length_append]; have := HN.out; omega⟩
              case measure => simp [intOf]; omega
            · obtain ⟨sz, hsz⟩ := Int.eq_ofNat_of_zero_le (show 0 ≤ o.size by omega)
              have hne : ¬ o.num < 256 ^ sz := by
                intro hlt2
                exact hg ⟨by omega, by omega, by rw [hsz]; exact hlt2⟩
              have hs8 : sz < 8 := by
                rcases Nat.lt_or_ge sz 8 with h | h
                · exact h
                · have h8 : sz = 8 := by omega
                  subst h8
                  exact absurd HSM.out (by omega)
              have HGT : Hid (((o.num : Int) / 2 ^ (8 * o.size).toNat != 0) = true) := Lib.hid (by rw [hsz]; exact great_of o.num sz hne)
              have H1 : Hid (1 ≤ o.size ∧ o.size < 8 ∧ o.size = (sz : Int) ∧ ¬ o.num < 256 ^ sz) := Lib.hid ⟨by omega, by omega, hsz, hne⟩
              clear hsz hne hs8 h18 hg
              go_wp2_with fail
              ((with_reducible refine (uint_great _ _ _ H1.out.1 H1.out.2.1 _ HGT.out).mono ?_); rintro e w5 ⟨rfl, rfl⟩)
              go_wp2_with fail
              ((with_reducible refine (ref_uint_any' o.num sz _ _ (by have := H1.out; omega) (by have := H1.out; omega) _ HSM.out (by omega) H1.out.2.2.1).mono ?_); rintro e w6 ⟨hk6, hp6⟩)
              rcases hp6 with ⟨h, _⟩ | ⟨_, gm, rfl, _⟩
              · exact absurd h H1.out.2.2.2
              · have HK6 := Lib.hid hk6
                clear hk6 e0 e1 e2 e3
                obtain ⟨add, hal, HY⟩ : ∃ add : List UInt8, add.length ≤ o.bs.length + 10 ∧ Hid (Ready w1 wr w6 w1.heap.size gd dcap gb cb xs add o bo bc (.slice (some ⟨gm, 0, none⟩) 0 0)) :=
                  ⟨[], by simp, Lib.hid (ready_of HSA.out (Nat.le_refl _) HP.out HD.out HR.out HOB.out HG3.out (Step.nothing (HPA.out _) (Keeps.refl _ _)) HK6.out (Bytes.nil _ _ _) HB1.out HF.out)⟩

                obtain ⟨a0, a1, a2, a3⟩ := cell_of_four HY.out.oblk
                have hb6 : w1.heap.size + 1 ≤ w6.heap.size := by have := (HY.out.want.lt gd rfl); omega
                go_wp2_with (at_builtin; refine wpList_append_bytes (by rfl) _ _ 26 5 i0 (by rfl) Try.underlying26 hi0 hz0 hz1 hz2 (w1.heap.size + 1) gd dcap xs add (.slice (some ⟨gm, 0, none⟩) 0 0) (by rfl) (by rfl) HY.out.want HY.out.more (by omega) hb6 ?_)
                intro gd' cap' w7 how hg7 hat7
                obtain ⟨row7, row6, hlat, hkk, hrr⟩ := HY.out.later how hg7 hat7
                have HL := Lib.hid hlat
                have HKK := Lib.hid hkk
                have HRR := Lib.hid hrr
                clear a0 a1 a2 a3 how hg7 hat7 hlat hkk hrr hb6
                obtain ⟨b0, b1, b2, b3⟩ := cell_of_four HL.out.oblk
                go_wp2_with fail
                ((with_reducible refine (data_any w1.heap.size (w1.heap.size + 1) row6 (xs ++ add) _ HL.out.pen (by rw [List.length_append]; omega)).mono ?_); rintro e w8 ⟨d8, rfl, ho8, hk8⟩)
                have hw8 : w8.ownsRow (w1.heap.size + 1) 5 1 (.slice (some ⟨gd', 0, none⟩) (xs.length + add.length) cap') (xs ++ add).length (u8s (xs ++ add)) := by rw [List.length_append]; exact own_keeps hk8 HL.out.want (fun _ _ e => e)
                have hb8 := own_keeps hk8 HL.out.bown (fun _ _ e => e)
                have cv1 := run_string_own (P := Try.prog) 26 9 5 ho8 Try.underlying26 Try.underlying5 Try.underlying9
                have cv2 := run_string_own (P := Try.prog) 26 9 5 hw8 Try.underlying26 Try.underlying5 Try.underlying9
                have cv3 := run_string_own (P := Try.prog) 26 9 5 hb8 Try.underlying26 Try.underlying5 Try.underlying9
                have cv4 := run_obs (HL.out.obs.same hk8) HF.out HSP.out
                have hb9 : ∀ w9, Keeps (RowOf d8) w8 w9 → w9.ownsRow (w1.heap.size + 1) 5 1 (.slice (some ⟨gb, 0, none⟩) o.bs.length cb) o.bs.length (u8s o.bs) := fun w9 hk9 => own_keeps hk9 hb8 (fun k e h => by
                  have h1 := (ho8.lt k h).1
                  have h2 := (HL.out.bown.lt k e).2
                  omega)
                have HB9 := Lib.hid hb9
                have HO8 := Lib.hid ho8
                have HK8 := Lib.hid hk8
                have hoblk8 := hk8.obj HL.out.oblk (fun e => e)
                clear b0 b1 b2 b3 hw8 hb8 ho8 hk8 hb9
                obtain ⟨b0, b1, b2, b3⟩ := cell_of_four hoblk8
                clear hoblk8
                go_wp2_with fail
                ((with_reducible refine (spoil_any _ d8 (xs ++ add) _ HO8.out (by rw [List.length_append]; unfold maxLen; omega)).mono ?_); rintro e w9 ⟨rfl, hk9⟩)
                have HK9 := Lib.hid hk9
                clear hk9 cv1 cv2 cv3 cv4 b0 b1 b2 b3
                go_wp2_with fail
                ((with_reducible refine (spoil_any (w1.heap.size + 1) (.slice (some ⟨gb, 0, none⟩) o.bs.length cb) o.bs _ (HB9.out _ HK9.out) (by unfold maxLen; omega)).mono ?_); rintro e w10 ⟨rfl, hk10⟩)
                have HK10 := Lib.hid hk10
                clear hk10
                go_wp2
                go_roundw
                case rel => exact ⟨j + 1, by omega, by go_num, xs ++ add, HL.out.finish HKK.out HRR.out HY.out.n6 HY.out.n5 HY.out.n7 HY.out.n3 HY.out.n1 HK8.out (fun k e => (HO8.out.lt k e).1) HK9.out HK10.out, by rw [List.length_append]; have := HN.out; omega⟩
                case measure => simp [intOf]; omega
        · by_cases hg : o.bs.length ≤ 65535
          · have hbx := fun y => (Bytes.of_own (own_keeps ((Keeps.refl (fun _ => False) w3).alloc y) HOB.out (fun _ _ e => e)))
            have hxs : ∀ a n c', Value.slice (some ⟨gb, 0, none⟩) o.bs.length cb = .slice (some a) n c' → o.bs ≠ [] → a.block ≠ w1.heap.size ∧ row ≠ some a.block := by
              intro a n c' ha h0
              simp only [Value.slice.injEq, Option.some.injEq] at ha
              obtain ⟨rfl, _, _⟩ := ha
              exact ⟨by simp; omega, fun e => by have := (HRL.out _ e).2; simp at this; omega⟩
            have HBX := Lib.hid hbx
            have HXS := Lib.hid hxs
            clear hbx hxs
            go_wp2_with fail
            ((with_reducible refine (text_ok w1.heap.size (w1.heap.size + 1) row xs o.bs (.slice (some ⟨gb, 0, none⟩) o.bs.length cb) _ (HPA.out _) (HBX.out _) hg HXS.out (by omega)).mono ?_); rintro e w5 ⟨rfl, hs⟩)
            have HS5 := Lib.hid hs
            clear hs e0 e1 e2 e3
            obtain ⟨a0, a1, a2, a3⟩ := cell_of_four (blk_step HP.out HG3.out HS5.out)
            have HOBS := Lib.hid (obs_step HSA.out HP.out HG3.out HS5.out HB1.out HF.out)
            go_wp2_with fail
            ((with_reducible refine (ref_text_ok (.slice bo o.bs.length bc) o.bs _ HOBS.out hg).mono ?_); rintro e w6 ⟨v6, rfl, hm, hk6, hv6⟩)
            obtain ⟨gm, cm, rfl⟩ : ∃ gm cm, v6 = .slice (some ⟨gm, 0, none⟩) (2 + o.bs.length) cm := by
              rcases hm.2 with ⟨h, _⟩ | ⟨g', cap', _, h, _⟩
              · exact absurd h hv6
              · exact ⟨g', cap', h⟩
            have HM6 := Lib.hid hm
            have HK6 := Lib.hid hk6
            clear hk6 hm hv6 a0 a1 a2 a3

            obtain ⟨add, hal, HY⟩ : ∃ add : List UInt8, add.length ≤ o.bs.length + 10 ∧ Hid (Ready w1 wr w6 w1.heap.size gd dcap gb cb xs add o bo bc (.slice (some ⟨gm, 0, none⟩) (2 + o.bs.length) cm)) :=
              ⟨be o.bs.length 2 ++ o.bs, by rw [List.length_append, be_length]; omega, Lib.hid (ready_of HSA.out (Nat.le_refl _) HP.out HD.out HR.out HOB.out HG3.out HS5.out HK6.out (Bytes.of_own' HM6.out (by rw [List.length_append, be_length])) HB1.out HF.out)⟩

            obtain ⟨a0, a1, a2, a3⟩ := cell_of_four HY.out.oblk
            have hb6 : w1.heap.size + 1 ≤ w6.heap.size := by have := (HY.out.want.lt gd rfl); omega
            go_wp2_with (at_builtin; refine wpList_append_bytes (by rfl) _ _ 26 5 i0 (by rfl) Try.underlying26 hi0 hz0 hz1 hz2 (w1.heap.size + 1) gd dcap xs add (.slice (some ⟨gm, 0, none⟩) (2 + o.bs.length) cm) (by rfl) (by rfl) HY.out.want HY.out.more (by omega) hb6 ?_)
            intro gd' cap' w7 how hg7 hat7
            obtain ⟨row7, row6, hlat, hkk, hrr⟩ := HY.out.later how hg7 hat7
            have HL := Lib.hid hlat
            have HKK := Lib.hid hkk
            have HRR := Lib.hid hrr
            clear a0 a1 a2 a3 how hg7 hat7 hlat hkk hrr hb6
            obtain ⟨b0, b1, b2, b3⟩ := cell_of_four HL.out.oblk
            go_wp2_with fail
            ((with_reducible refine (data_any w1.heap.size (w1.heap.size + 1) row6 (xs ++ add) _ HL.out.pen (by rw [List.length_append]; omega)).mono ?_); rintro e w8 ⟨d8, rfl, ho8, hk8⟩)
            have hw8 : w8.ownsRow (w1.heap.size + 1) 5 1 (.slice (some ⟨gd', 0, none⟩) (xs.length + add.length) cap') (xs ++ add).length (u8s (xs ++ add)) := by rw [List.length_append]; exact own_keeps hk8 HL.out.want (fun _ _ e => e)
            have hb8 := own_keeps hk8 HL.out.bown (fun _ _ e => e)
            have cv1 := run_string_own (P := Try.prog) 26 9 5 ho8 Try.underlying26 Try.underlying5 Try.underlying9
            have cv2 := run_string_own (P := Try.prog) 26 9 5 hw8 Try.underlying26 Try.underlying5 Try.underlying9
            have cv3 := run_string_own (P := Try.prog) 26 9 5 hb8 Try.underlying26 Try.underlying5 Try.underlying9
            have cv4 := run_obs (HL.out.obs.same hk8) HF.out HSP.out
            have hb9 : ∀ w9, Keeps (RowOf d8) w8 w9 → w9.ownsRow (w1.heap.size + 1) 5 1 (.slice (some ⟨gb, 0, none⟩) o.bs.length cb) o.bs.length (u8s o.bs) := fun w9 hk9 => own_keeps hk9 hb8 (fun k e h => by
              have h1 := (ho8.lt k h).1
              have h2 := (HL.out.bown.lt k e).2
              omega)
            have HB9 := Lib.hid hb9
            have HO8 := Lib.hid ho8
            have HK8 := Lib.hid hk8
            have hoblk8 := hk8.obj HL.out.oblk (fun e => e)
            clear b0 b1 b2 b3 hw8 hb8 ho8 hk8 hb9
            obtain ⟨b0, b1, b2, b3⟩ := cell_of_four hoblk8
            clear hoblk8
            go_wp2_with fail
            ((with_reducible refine (spoil_any _ d8 (xs ++ add) _ HO8.out (by rw [List.length_append]; unfold maxLen; omega)).mono ?_); rintro e w9 ⟨rfl, hk9⟩)
            have HK9 := Lib.hid hk9
            clear hk9 cv1 cv2 cv3 cv4 b0 b1 b2 b3
            go_wp2_with fail
            ((with_reducible refine (spoil_any (w1.heap.size + 1) (.slice (some ⟨gb, 0, none⟩) o.bs.length cb) o.bs _ (HB9.out _ HK9.out) (by unfold maxLen; omega)).mono ?_); rintro e w10 ⟨rfl, hk10⟩)
            have HK10 := Lib.hid hk10
            clear hk10
            go_wp2
            go_roundw
            case rel => exact ⟨j + 1, by omega, by go_num, xs ++ add, HL.out.finish HKK.out HRR.out HY.out.n6 HY.out.n5 HY.out.n7 HY.out.n3 HY.out.n1 HK8.out (fun k e => (HO8.out.lt k e).1) HK9.out HK10.out, by rw [List.length_append]; have := HN.out; omega⟩
            case measure => simp [intOf]; omega
          · have hg2 : 65535 < o.bs.length := by omega
            clear hg
            go_wp2_with fail
            ((with_reducible refine (text_long _ _ _ _ _ hg2).mono ?_); rintro e w5 ⟨rfl, rfl⟩)
            go_wp2_with fail
            ((with_reducible refine (ref_text_long bo o.bs.length bc _ hg2 (by omega)).mono ?_); rintro e w6 ⟨gm, rfl, hk6, _⟩)
            have HK6 := Lib.hid hk6
            clear hk6 e0 e1 e2 e3

            obtain ⟨add, hal, HY⟩ : ∃ add : List UInt8, add.length ≤ o.bs.length + 10 ∧ Hid (Ready w1 wr w6 w1.heap.size gd dcap gb cb xs add o bo bc (.slice (some ⟨gm, 0, none⟩) 0 0)) :=
              ⟨[], by simp, Lib.hid (ready_of HSA.out (Nat.le_refl _) HP.out HD.out HR.out HOB.out HG3.out (Step.nothing (HPA.out _) (Keeps.refl _ _)) HK6.out (Bytes.nil _ _ _) HB1.out HF.out)⟩

            obtain ⟨a0, a1, a2, a3⟩ := cell_of_four HY.out.oblk
            have hb6 : w1.heap.size + 1 ≤ w6.heap.size := by have := (HY.out.want.lt gd rfl); omega
            go_wp2_with (at_builtin; refine wpList_append_bytes (by rfl) _ _ 26 5 i0 (by rfl) Try.underlying26 hi0 hz0 hz1 hz2 (w1.heap.size + 1) gd dcap xs add (.slice (some ⟨gm, 0, none⟩) 0 0) (by rfl) (by rfl) HY.out.want HY.out.more (by omega) hb6 ?_)
            intro gd' cap' w7 how hg7 hat7
            obtain ⟨row7, row6, hlat, hkk, hrr⟩ := HY.out.later how hg7 hat7
            have HL := Lib.hid hlat
            have HKK := Lib.hid hkk
            have HRR := Lib.hid hrr
            clear a0 a1 a2 a3 how hg7 hat7 hlat hkk hrr hb6
            obtain ⟨b0, b1, b2, b3⟩ := cell_of_four HL.out.oblk
            go_wp2_with fail
            ((with_reducible refine (data_any w1.heap.size (w1.heap.size + 1) row6 (xs ++ add) _ HL.out.pen (by rw [List.length_append]; omega)).mono ?_); rintro e w8 ⟨d8, rfl, ho8, hk8⟩)
            have hw8 : w8.ownsRow (w1.heap.size + 1) 5 1 (.slice (some ⟨gd', 0, none⟩) (xs.length + add.length) cap') (xs ++ add).length (u8s (xs ++ add)) := by rw [List.length_append]; exact own_keeps hk8 HL.out.want (fun _ _ e => e)
            have hb8 := own_keeps hk8 HL.out.bown (fun _ _ e => e)
            have cv1 := run_string_own (P := Try.prog) 26 9 5 ho8 Try.underlying26 Try.underlying5 Try.underlying9
            have cv2 := run_string_own (P := Try.prog) 26 9 5 hw8 Try.underlying26 Try.underlying5 Try.underlying9
            have cv3 := run_string_own (P := Try.prog) 26 9 5 hb8 Try.underlying26 Try.underlying5 Try.underlying9
            have cv4 := run_obs (HL.out.obs.same hk8) HF.out HSP.out
            have hb9 : ∀ w9, Keeps (RowOf d8) w8 w9 → w9.ownsRow (w1.heap.size + 1) 5 1 (.slice (some ⟨gb, 0, none⟩) o.bs.length cb) o.bs.length (u8s o.bs) := fun w9 hk9 => own_keeps hk9 hb8 (fun k e h => by
              have h1 := (ho8.lt k h).1
              have h2 := (HL.out.bown.lt k e).2
              omega)
            have HB9 := Lib.hid hb9
            have HO8 := Lib.hid ho8
            have HK8 := Lib.hid hk8
            have hoblk8 := hk8.obj HL.out.oblk (fun e => e)
            clear b0 b1 b2 b3 hw8 hb8 ho8 hk8 hb9
            obtain ⟨b0, b1, b2, b3⟩ := cell_of_four hoblk8
            clear hoblk8
            go_wp2_with fail
            ((with_reducible refine (spoil_any _ d8 (xs ++ add) _ HO8.out (by rw [List.length_append]; unfold maxLen; omega)).mono ?_); rintro e w9 ⟨rfl, hk9⟩)
            have HK9 := Lib.hid hk9
            clear hk9 cv1 cv2 cv3 cv4 b0 b1 b2 b3
            go_wp2_with fail
            ((with_reducible refine (spoil_any (w1.heap.size + 1) (.slice (some ⟨gb, 0, none⟩) o.bs.length cb) o.bs _ (HB9.out _ HK9.out) (by unfold maxLen; omega)).mono ?_); rintro e w10 ⟨rfl, hk10⟩)
            have HK10 := Lib.hid hk10
            clear hk10
            go_wp2
            go_roundw
            case rel => exact ⟨j + 1, by omega, by go_num, xs ++ add, HL.out.finish HKK.out HRR.out HY.out.n6 HY.out.n5 HY.out.n7 HY.out.n3 HY.out.n1 HK8.out (fun k e => (HO8.out.lt k e).1) HK9.out HK10.out, by rw [List.length_append]; have := HN.out; omega⟩
            case measure => simp [intOf]; omega
        · have hbx := fun y => (Bytes.of_own (own_keeps ((Keeps.refl (fun _ => False) w3).alloc y) HOB.out (fun _ _ e => e)))
          have HBX := Lib.hid hbx
          clear hbx
          go_wp2_with fail
          ((with_reducible refine (raw_any w1.heap.size (w1.heap.size + 1) row xs o.bs (.slice (some ⟨gb, 0, none⟩) o.bs.length cb) _ (HPA.out _) (HBX.out _) (by omega)).mono ?_); rintro e w6 ⟨rfl, hs⟩)
          have HS5 := Lib.hid hs
          clear hs e0 e1 e2 e3
          have HOBS := Lib.hid (obs_step HSA.out HP.out HG3.out HS5.out HB1.out HF.out)

          obtain ⟨add, hal, HY⟩ : ∃ add : List UInt8, add.length ≤ o.bs.length + 10 ∧ Hid (Ready w1 wr w6 w1.heap.size gd dcap gb cb xs add o bo bc (.slice bo o.bs.length bc)) :=
            ⟨o.bs, by omega, Lib.hid (ready_of HSA.out (Nat.le_refl _) HP.out HD.out HR.out HOB.out HG3.out HS5.out (Keeps.refl _ _) HOBS.out HB1.out HF.out)⟩

          obtain ⟨a0, a1, a2, a3⟩ := cell_of_four HY.out.oblk
          have hb6 : w1.heap.size + 1 ≤ w6.heap.size := by have := (HY.out.want.lt gd rfl); omega
          go_wp2_with (at_builtin; refine wpList_append_bytes (by rfl) _ _ 26 5 i0 (by rfl) Try.underlying26 hi0 hz0 hz1 hz2 (w1.heap.size + 1) gd dcap xs add (.slice bo o.bs.length bc) (by rfl) (by rfl) HY.out.want HY.out.more (by omega) hb6 ?_)
          intro gd' cap' w7 how hg7 hat7
          obtain ⟨row7, row6, hlat, hkk, hrr⟩ := HY.out.later how hg7 hat7
          have HL := Lib.hid hlat
          have HKK := Lib.hid hkk
          have HRR := Lib.hid hrr
          clear a0 a1 a2 a3 how hg7 hat7 hlat hkk hrr hb6
          obtain ⟨b0, b1, b2, b3⟩ := cell_of_four HL.out.oblk
          go_wp2_with fail
          ((with_reducible refine (data_any w1.heap.size (w1.heap.size + 1) row6 (xs ++ add) _ HL.out.pen (by rw [List.length_append]; omega)).mono ?_); rintro e w8 ⟨d8, rfl, ho8, hk8⟩)
          have hw8 : w8.ownsRow (w1.heap.size + 1) 5 1 (.slice (some ⟨gd', 0, none⟩) (xs.length + add.length) cap') (xs ++ add).length (u8s (xs ++ add)) := by rw [List.length_append]; exact own_keeps hk8 HL.out.want (fun _ _ e => e)
          have hb8 := own_keeps hk8 HL.out.bown (fun _ _ e => e)
          have cv1 := run_string_own (P := Try.prog) 26 9 5 ho8 Try.underlying26 Try.underlying5 Try.underlying9
          have cv2 := run_string_own (P := Try.prog) 26 9 5 hw8 Try.underlying26 Try.underlying5 Try.underlying9
          have cv3 := run_string_own (P := Try.prog) 26 9 5 hb8 Try.underlying26 Try.underlying5 Try.underlying9
          have cv4 := run_obs (HL.out.obs.same hk8) HF.out HSP.out
          have hb9 : ∀ w9, Keeps (RowOf d8) w8 w9 → w9.ownsRow (w1.heap.size + 1) 5 1 (.slice (some ⟨gb, 0, none⟩) o.bs.length cb) o.bs.length (u8s o.bs) := fun w9 hk9 => own_keeps hk9 hb8 (fun k e h => by
            have h1 := (ho8.lt k h).1
            have h2 := (HL.out.bown.lt k e).2
            omega)
          have HB9 := Lib.hid hb9
          have HO8 := Lib.hid ho8
          have HK8 := Lib.hid hk8
          have hoblk8 := hk8.obj HL.out.oblk (fun e => e)
          clear b0 b1 b2 b3 hw8 hb8 ho8 hk8 hb9
          obtain ⟨b0, b1, b2, b3⟩ := cell_of_four hoblk8
          clear hoblk8
          go_wp2_with fail
          ((with_reducible refine (spoil_any _ d8 (xs ++ add) _ HO8.out (by rw [List.length_append]; unfold maxLen; omega)).mono ?_); rintro e w9 ⟨rfl, hk9⟩)
          have HK9 := Lib.hid hk9
          clear hk9 cv1 cv2 cv3 cv4 b0 b1 b2 b3
          go_wp2_with fail
          ((with_reducible refine (spoil_any (w1.heap.size + 1) (.slice (some ⟨gb, 0, none⟩) o.bs.length cb) o.bs _ (HB9.out _ HK9.out) (by unfold maxLen; omega)).mono ?_); rintro e w10 ⟨rfl, hk10⟩)
          have HK10 := Lib.hid hk10
          clear hk10
          go_wp2
          go_roundw
          case rel => exact ⟨j + 1, by omega, by go_num, xs ++ add, HL.out.finish HKK.out HRR.out HY.out.n6 HY.out.n5 HY.out.n7 HY.out.n3 HY.out.n1 HK8.out (fun k e => (HO8.out.lt k e).1) HK9.out HK10.out, by rw [List.length_append]; have := HN.out; omega⟩
          case measure => simp [intOf]; omega
      · obtain ⟨wo, rfl⟩ : ∃ wo : World, wo = wr := ⟨_, rfl⟩
        obtain ⟨row, gd, dcap, rfl, hp, hd, hr⟩ := hh.ex
        have hwt := weight_take ops j
        have hxs2 : xs.length ≤ 1000000 := by have := HW.out; omega
        have HP := Lib.hid hp
        have HD := Lib.hid hd
        have HSA := Lib.hid hh.same
        have cw := run_string_own (P := Try.prog) 26 9 5 (own_keeps ((Keeps.refl (fun _ => False) wo).drew) hd (fun _ _ e => e)) Try.underlying26 Try.underlying5 Try.underlying9
        clear hp hd hr hh hwt
        go_wp2_with fail
        go_region_with (first
          | ((with_reducible refine (data_any w1.heap.size (w1.heap.size + 1) row xs _ (HP.out.keeps (Keeps.refl (fun _ => False) wo).drew (fun e => e) (fun _ _ e => e)) (by omega)).mono ?_); rintro e w4 ⟨v1, rfl, ho1, hk4⟩
             have hc1 := run_string_own (P := Try.prog) 26 9 5 ho1 Try.underlying26 Try.underlying5 Try.underlying9
             have hc2 := run_string_own (P := Try.prog) 26 9 5 (own_keeps hk4 (own_keeps ((Keeps.refl (fun _ => False) wo).drew) HD.out (fun _ _ e => e)) (fun _ _ e => e)) Try.underlying26 Try.underlying5 Try.underlying9
             have HK4 := Lib.hid hk4
             clear ho1 hk4))
        all_goals
          go_wp2
          go_ret
          exact ⟨rfl, ((HK.out.trans HSA.out (fun _ _ e => e)).drew).trans HK4.out (fun _ _ e => e)⟩

end Go.Proofs.Ytomjgdlekfppkaa
