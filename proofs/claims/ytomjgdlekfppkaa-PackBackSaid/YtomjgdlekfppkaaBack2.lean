/- The walk of PackBack. -/
import Derived.Test.YtomjgdlekfppkaaBack1
import Derived.Test.YtomjgdlekfppkaaEye4
import Derived.Test.YtomjgdlekfppkaaOrder
namespace Go.Proofs.Ytomjgdlekfppkaa
open Go.RowKit
set_option linter.unusedVariables false

set_option maxRecDepth 100000 in
set_option maxHeartbeats 1600000 in
theorem back_great (ao : Option Addr) (cap : Nat) (ops : List Opx) (w : World) (h : Script w ao ops) (hl : ops.length ≤ maxLen) :
    Calls Try.prog 5 #[.slice ao ops.length cap] w fun e w' => e = .returned (.bool true) ∧ Same w w' := by
  have HS := Lib.hid h
  clear h
  go_enter Try.func5, Try.ntmps5
  go_wp2_with fail
  ((with_reducible refine (speaks_ok _).mono ?_); rintro e w1 ⟨rfl, hk1⟩)
  have hsc := HS.out.same hk1
  have HK := Lib.hid hk1
  have HS1 := Lib.hid hsc
  clear hk1 hsc
  go_wp2_with fail
  ((with_reducible refine (great_any ao cap ops _ HS1.out hl).mono ?_); rintro e w2 ⟨b, rfl, rfl, hb⟩)
  cases b with
  | true =>
    clear hb
    go_wp2
    go_ret
    exact ⟨rfl, HK.out⟩
  | false =>
    have hw := hb rfl
    have hlen := weight_length ops
    have hlen2 : (ops.length : Int) ≤ 100000 := by omega
    have HW := Lib.hid hw
    clear hb hw hlen
    obtain ⟨i0, hi0, hz0, hz1, hz2⟩ := info_parts infoOp
    go_wp2
    go_loopw [4, 6, 23, 27] (fun d _ i _ wr => ∃ j : Nat, j ≤ ops.length ∧ i = .int .i64 j ∧ Half w1 wr w1.heap.size d ((ops.take j).filter Opx.good)) (fun _ _ i _ _ => ops.length - (intOf i).toNat)
    case atStart => exact ⟨0, by omega, rfl, Half.start w1⟩
    case round =>
      obtain ⟨j, hj, rfl, hh⟩ := hrel
      by_cases hlt : j < ops.length
      · rcases HS1.out with h0 | ⟨g, off, rfl, hall⟩
        · subst h0; simp at hlt
        have hsame := hh.same
        have ho := (hall j hlt).below hsame.below
        obtain ⟨bo, bc, hform⟩ := ho.bytes.form
        have hc0 := ho.c0
        have hc1 := ho.c1
        have hc2 := ho.c2
        have hc3 := ho.c3
        rw [hform] at hc3
        have HF : Hid (ops[j].val = .slice bo ops[j].bs.length bc) := Lib.hid hform
        have HOB : Hid (Bytes w1 ops[j].val ops[j].bs) := Lib.hid (hall j hlt).bytes
        have HO := Lib.hid ho
        have hkb := bit_cases ops[j].kind
        have hbl : ops[j].bs.length ≤ 1000000 := Nat.le_trans (weight_get ops j hlt) HW.out
        obtain ⟨row, gd, dcap, rfl, hp, hd, hr⟩ := hh.ex
        have hel : (encs ((ops.take j).filter Opx.good)).length ≤ 1000000 := Nat.le_trans (encs_length _) (Nat.le_trans (weight_take ops j) HW.out)
        have hfl : ((ops.take j).filter Opx.good).length ≤ 100000 := Nat.le_trans (List.length_filter_le _ _) (by have := List.length_take_le j ops; omega)
        have HH := Lib.hid hh
        have HP := Lib.hid hp
        have HD := Lib.hid hd
        have HR := Lib.hid hr
        have HG1 : Hid (ops[j].good = true → (ops.take (j + 1)).filter Opx.good = (ops.take j).filter Opx.good ++ [ops[j]]) := Lib.hid (filter_yes ops j hlt)
        have HG0 : Hid (ops[j].good = false → (ops.take (j + 1)).filter Opx.good = (ops.take j).filter Opx.good) := Lib.hid (filter_no ops j hlt)
        have hbp : w1.heap.size < wr.heap.size := by have := hp.lt; have := hp.hb; omega
        have HPA : Hid (∀ x, Pen 28 5 (wr.alloc x) w1.heap.size (w1.heap.size + 1) row (encs ((ops.take j).filter Opx.good))) := Lib.hid fun x => hp.keeps ((Keeps.refl (fun _ => False) _).alloc x) (fun e => e) (fun _ _ e => e)
        generalize (ops.take j).filter Opx.good = l at *
        generalize ops[j] = o at *
        clear ho hall hh hp hd hr hsame hform
        rcases hkb with hkb | hkb
        · have hnum : o.isNum = true := by simp [Opx.isNum, hkb]
          by_cases hg : 1 ≤ o.size ∧ o.size ≤ 8 ∧ o.num < 256 ^ o.size.toNat
          · have hgood : o.good = true := by simp only [Opx.good, hnum, if_true]; exact decide_eq_true hg
            have HGD := Lib.hid hgood
            have HEN : Hid (be o.num o.size.toNat = o.enc) := Lib.hid (by simp only [Opx.enc, hnum, if_true])
            have HGG := Lib.hid hg
            clear hgood hnum hg
            go_wp2_with fail
            ((with_reducible refine (uint_ok' w1.heap.size (w1.heap.size + 1) row (encs l) o.num o.size.toNat _ _ _ (HPA.out _) (by omega) (by have := HGG.out; omega) (by have := HGG.out; omega) HGG.out.2.2 (by omega) (by have := HGG.out; omega)).mono ?_); rintro e w3 ⟨rfl, hs⟩)
            rw [HEN.out] at hs
            obtain ⟨row2, hp2, hk2, hm2⟩ := hs.ex
            have hob : w3.heap[wr.heap.size]? = some (.cells #[.int .i64 o.kind, .int .i64 o.size, .int .u64 o.num, .slice bo o.bs.length bc] 31 (0, 0)) :=
              hk2.obj (heap_alloc_new wr _) (notPen (by omega) (fun e => by have := (HP.out.row_lt _ e).2; omega))
            obtain ⟨a0, a1, a2, a3⟩ := cell_of_four hob
            have hd3 : w3.ownsRow (w1.heap.size + 1) 31 4 (.slice (some ⟨gd, 0, none⟩) l.length dcap) l.length (opCells l) :=
              own_keeps hk2 (own_keeps ((Keeps.refl (fun _ => False) wr).alloc _) HD.out (fun _ _ e => e)) (fun k e => notPen (by have := (HD.out.lt k e).1; omega) (by simp only [Value.ownBlock, Option.some.injEq] at e; subst e; exact HR.out))
            have hb3 : w1.heap.size + 1 ≤ w3.heap.size := by have := hk2.size; simp only [World.size_alloc] at this; omega
            have HS3 := Lib.hid hs
            have HD3 := Lib.hid hd3
            clear hs hp2 hk2 hm2 hob hd3 hc0 hc1 hc2 hc3
            go_wp2_with (at_builtin; refine wpList_append_lies _ (by rfl) _ _ _ (by rfl) (w1.heap.size + 1) 31 i0 _ 4 48 Try.underlying22 hi0 hz0 hz1 hz2 rfl (by omega) (.slice (some ⟨gd, 0, none⟩) l.length dcap) l.length (opCells l) (by rfl) (HD3.out.alloc _) ⟨w3.heap.size, 0, none⟩ 1 1 [.int .i64 o.kind, .int .i64 o.size, .int .u64 o.num, .slice bo o.bs.length bc] (by rfl) (by rfl) (World.news_of_block (cs := #[.int .i64 o.kind, .int .i64 o.size, .int .u64 o.num, .slice bo o.bs.length bc]) (t := 31) (fr := (0, 0)) (heap_alloc_new w3 _)) (by simp [Value.oneCell']) (by omega) (by unfold maxLen; omega) (by omega) (by simp; omega) (w3.heap.size + 1) (by simp) ?_)
            intro gg cap' w4 hown4 hgrow hat hlt4
            have HO4 := Lib.hid hown4
            have HGR := Lib.hid hgrow
            have HAT := Lib.hid hat
            clear hown4 hgrow hat a0 a1 a2 a3
            go_wp2
            go_roundw
            case rel =>
              refine ⟨j + 1, by omega, by go_num, ?_⟩
              rw [HG1.out HGD.out]
              exact Half.next HH.out.same HH.out.new HP.out HD.out HR.out HS3.out (by simpa [opCells, HF.out] using HO4.out) HGR.out HAT.out
            case measure => simp [intOf]; omega
          · have hbad : o.good = false := by simp only [Opx.good, hnum, if_true]; exact decide_eq_false hg
            have HBD := Lib.hid hbad
            have HGG := Lib.hid hg
            clear hbad hnum hg
            by_cases h18 : o.size < 1 ∨ 8 < o.size
            · have H18 := Lib.hid h18
              clear h18
              go_wp2_with fail
              ((with_reducible refine (uint_size _ _ _ H18.out _).mono ?_); rintro e w3 ⟨rfl, rfl⟩)
              go_wp2
              go_roundw
              case rel => exact ⟨j + 1, by omega, by go_num, by rw [HG0.out HBD.out]; exact HH.out.skip _⟩
              case measure => simp [intOf]; omega
            · obtain ⟨sz, hsz⟩ := Int.eq_ofNat_of_zero_le (show 0 ≤ o.size by omega)
              have hne : ¬ o.num < 256 ^ sz := by
                intro hlt2
                exact HGG.out ⟨by omega, by omega, by rw [hsz]; exact hlt2⟩
              have hs8 : sz < 8 := by
                rcases Nat.lt_or_ge sz 8 with h | h
                · exact h
                · have h8 : sz = 8 := by omega
                  subst h8
                  exact absurd HO.out.small (by omega)
              have HGT : Hid (((o.num : Int) / 2 ^ (8 * o.size).toNat != 0) = true) := Lib.hid (by rw [hsz]; exact great_of o.num sz hne)
              have H1 : Hid (1 ≤ o.size ∧ o.size < 8) := Lib.hid ⟨by omega, by omega⟩
              clear hsz hne hs8 h18
              go_wp2_with fail
              ((with_reducible refine (uint_great _ _ _ H1.out.1 H1.out.2 _ HGT.out).mono ?_); rintro e w3 ⟨rfl, rfl⟩)
              go_wp2
              go_roundw
              case rel => exact ⟨j + 1, by omega, by go_num, by rw [HG0.out HBD.out]; exact HH.out.skip _⟩
              case measure => simp [intOf]; omega
        · have hnum : o.isNum = false := by simp [Opx.isNum, hkb]
          by_cases hg : o.bs.length ≤ 65535
          · have hgood : o.good = true := by simp only [Opx.good, hnum]; simpa using hg
            have HGD := Lib.hid hgood
            have HEN : Hid (be o.bs.length 2 ++ o.bs = o.enc) := Lib.hid (by simp [Opx.enc, hnum])
            have hbx : ∀ x, Bytes (wr.alloc x) (.slice bo o.bs.length bc) o.bs := fun x => by rw [← HF.out]; exact HO.out.bytes.same ((Keeps.refl _ _).alloc _)
            have hxs : ∀ a n c', Value.slice bo o.bs.length bc = .slice (some a) n c' → o.bs ≠ [] → a.block ≠ w1.heap.size ∧ row ≠ some a.block := by
              intro a n c' ha h0
              have hb1 : a.block < w1.heap.size := by
                have h5 := HOB.out
                rw [HF.out, ha] at h5
                exact h5.lt h0
              exact ⟨by omega, fun e => by have := (HP.out.row_lt _ e).1; omega⟩
            have HBX := Lib.hid hbx
            have HXS := Lib.hid hxs
            clear hgood hnum hbx hxs
            go_wp2_with fail
            ((with_reducible refine (text_ok w1.heap.size (w1.heap.size + 1) row (encs l) o.bs (.slice bo o.bs.length bc) _ (HPA.out _) (HBX.out _) hg HXS.out (by omega)).mono ?_); rintro e w3 ⟨rfl, hs⟩)
            rw [HEN.out] at hs
            obtain ⟨row2, hp2, hk2, hm2⟩ := hs.ex
            have hob : w3.heap[wr.heap.size]? = some (.cells #[.int .i64 o.kind, .int .i64 o.size, .int .u64 o.num, .slice bo o.bs.length bc] 31 (0, 0)) :=
              hk2.obj (heap_alloc_new wr _) (notPen (by omega) (fun e => by have := (HP.out.row_lt _ e).2; omega))
            obtain ⟨a0, a1, a2, a3⟩ := cell_of_four hob
            have hd3 : w3.ownsRow (w1.heap.size + 1) 31 4 (.slice (some ⟨gd, 0, none⟩) l.length dcap) l.length (opCells l) :=
              own_keeps hk2 (own_keeps ((Keeps.refl (fun _ => False) wr).alloc _) HD.out (fun _ _ e => e)) (fun k e => notPen (by have := (HD.out.lt k e).1; omega) (by simp only [Value.ownBlock, Option.some.injEq] at e; subst e; exact HR.out))
            have hb3 : w1.heap.size + 1 ≤ w3.heap.size := by have := hk2.size; simp only [World.size_alloc] at this; omega
            have HS3 := Lib.hid hs
            have HD3 := Lib.hid hd3
            clear hs hp2 hk2 hm2 hob hd3 hc0 hc1 hc2 hc3
            go_wp2_with (at_builtin; refine wpList_append_lies _ (by rfl) _ _ _ (by rfl) (w1.heap.size + 1) 31 i0 _ 4 48 Try.underlying22 hi0 hz0 hz1 hz2 rfl (by omega) (.slice (some ⟨gd, 0, none⟩) l.length dcap) l.length (opCells l) (by rfl) (HD3.out.alloc _) ⟨w3.heap.size, 0, none⟩ 1 1 [.int .i64 o.kind, .int .i64 o.size, .int .u64 o.num, .slice bo o.bs.length bc] (by rfl) (by rfl) (World.news_of_block (cs := #[.int .i64 o.kind, .int .i64 o.size, .int .u64 o.num, .slice bo o.bs.length bc]) (t := 31) (fr := (0, 0)) (heap_alloc_new w3 _)) (by simp [Value.oneCell']) (by omega) (by unfold maxLen; omega) (by omega) (by simp; omega) (w3.heap.size + 1) (by simp) ?_)
            intro gg cap' w4 hown4 hgrow hat hlt4
            have HO4 := Lib.hid hown4
            have HGR := Lib.hid hgrow
            have HAT := Lib.hid hat
            clear hown4 hgrow hat a0 a1 a2 a3
            go_wp2
            go_roundw
            case rel =>
              refine ⟨j + 1, by omega, by go_num, ?_⟩
              rw [HG1.out HGD.out]
              exact Half.next HH.out.same HH.out.new HP.out HD.out HR.out HS3.out (by simpa [opCells, HF.out] using HO4.out) HGR.out HAT.out
            case measure => simp [intOf]; omega
          · have hbad : o.good = false := by simp only [Opx.good, hnum]; simpa using hg
            have HBD := Lib.hid hbad
            have HGG := Lib.hid hg
            clear hbad hnum
            go_wp2_with fail
            ((with_reducible refine (text_long _ _ _ _ _ (by omega)).mono ?_); rintro e w3 ⟨rfl, rfl⟩)
            go_wp2
            go_roundw
            case rel => exact ⟨j + 1, by omega, by go_num, by rw [HG0.out HBD.out]; exact HH.out.skip _⟩
            case measure => simp [intOf]; omega
      · have hjn : ops.take j = ops := List.take_of_length_le (by omega)
        rw [hjn] at hh
        obtain ⟨row, gd, dcap, rfl, hp, hd, hr⟩ := hh.ex
        have hel : (encs (ops.filter Opx.good)).length ≤ 1000000 := Nat.le_trans (encs_length _) HW.out
        have hfl : (ops.filter Opx.good).length ≤ 100000 := Nat.le_trans (List.length_filter_le _ _) (by omega)
        have hmem : ∀ o ∈ ops.filter Opx.good, (Bytes w1 o.val o.bs ∧ (∀ a n c, o.val = .slice (some a) n c → o.bs ≠ [] → a.spot = none) ∧ o.num < 18446744073709551616) ∧ o.good = true := by
          intro o ho
          rw [List.mem_filter] at ho
          exact ⟨HS1.out.mem o ho.1, ho.2⟩
        obtain ⟨wo, rfl⟩ : ∃ wo : World, wo = wr := ⟨_, rfl⟩
        have HH := Lib.hid hh
        have HP := Lib.hid hp
        have HD := Lib.hid hd
        have HM := Lib.hid hmem
        generalize ops.filter Opx.good = l at *
        clear hh hp hd hr hmem hjn
        go_wp2_with fail
        ((with_reducible refine (data_any _ _ _ _ _ HP.out (by omega)).mono ?_); rintro e w3 ⟨v, rfl, ho3, hk3⟩)
        have HO3 := Lib.hid ho3
        have HK3 := Lib.hid hk3
        clear ho3 hk3
        go_wp2_with fail
        ((with_reducible refine (neweye_own _ _ _ _ HO3.out (by omega)).mono ?_); rintro e w4 ⟨B, u, rfl, hne, hu⟩)
        have HN := Lib.hid hne
        have HU := Lib.hid hu
        clear hne hu
        have hgd := (HD.out.lt gd rfl).2
        have hB : w3.heap.size ≤ B := HN.out.new
        have hz3 := HK3.out.size
        have h14 : Same w1 w4 := (HH.out.same.trans HK3.out (fun _ _ e => e)).trans HN.out.same (fun _ _ e => e)
        have HD4 : Hid (w4.ownsRow (w1.heap.size + 1) 31 4 (.slice (some ⟨gd, 0, none⟩) l.length dcap) l.length (opCells l)) := Lib.hid (own_keeps HN.out.same (own_keeps HK3.out HD.out (fun _ _ e => e)) (fun _ _ e => e))
        have hBg : gd ≠ B := by omega
        have hB4 : B < w4.heap.size := HN.out.eye.lt
        have hlen4 : (l.length : Int) ≤ 100000 := by omega
        have H14 := Lib.hid h14
        have hB1 : w1.heap.size ≤ B := by have := HH.out.same.size; omega
        clear h14 hgd hB hz3
        go_wp2
        go_loopw [64] (fun i wr => ∃ j : Nat, j ≤ l.length ∧ i = .int .i64 j ∧ Eye 62 5 wr B u (encs l) (encs (l.take j)).length ∧ Keeps (fun k => k = B) w4 wr) (fun i _ => l.length - (intOf i).toNat)
        case atStart => exact ⟨0, by omega, rfl, by simpa [encs] using HN.out.eye, Keeps.refl _ _⟩
        case round =>
          obtain ⟨i, hi, rfl, heye, hkk⟩ := hrel
          have HE := Lib.hid heye
          have HKK := Lib.hid hkk
          have hzr := hkk.size
          have hBr : B < wr.heap.size := by omega
          by_cases hlt2 : i < l.length
          · have hdr : wr.ownsRow (w1.heap.size + 1) 31 4 (.slice (some ⟨gd, 0, none⟩) l.length dcap) l.length (opCells l) := own_keeps hkk HD4.out (fun k e h => by simp only [Value.ownBlock, Option.some.injEq] at e; omega)
            have hcg := hdr.cells rfl
            simp only [add_at, Nat.zero_add] at hcg
            obtain ⟨q0, q1, q2, q3⟩ := opCells_get l i hlt2
            have c0 := hcg _ _ q0
            have c1 := hcg _ _ q1
            have c2 := hcg _ _ q2
            have c3 := hcg _ _ q3
            obtain ⟨⟨hby, hsp, hsm⟩, hgood⟩ := HM.out l[i] (List.getElem_mem hlt2)
            have hle := encs_le l i hlt2
            have hdrop := drop_encs l i hlt2
            have htk := encs_take_succ l i hlt2
            obtain ⟨bo, bc, hform⟩ := hby.form
            have hkb := bit_cases l[i].kind
            have HBY := Lib.hid hby
            have HSP := Lib.hid hsp
            have HTK := Lib.hid htk
            have HDR := Lib.hid hdrop
            generalize l[i] = o at *
            rw [hform] at c3
            have HF := Lib.hid hform
            have HGD := Lib.hid hgood
            generalize hrest : encs (l.drop (i + 1)) = rest at *
            clear hdr hcg q0 q1 q2 q3 hby hsp hsm hdrop htk hform hgood heye hkk hrest
            have HEA : Hid (∀ x, Eye 62 5 (wr.alloc x) B u (encs l) (encs (l.take i)).length) := Lib.hid fun x => HE.out.keeps ((Keeps.refl (fun _ => False) _).alloc x) (fun e => e) (fun _ _ e => e)
            have HUN : Hid (o.enc ≠ [] → u ≠ .slice none 0 0) := Lib.hid fun h => HU.out (fun e => by
              have h2 := HDR.out
              rw [e] at h2
              simp only [List.drop_nil] at h2
              exact h (List.append_eq_nil_iff.1 h2.symm).1)
            rcases hkb with hkb | hkb
            · have hnum : o.isNum = true := by simp [Opx.isNum, hkb]
              have hg : 1 ≤ o.size ∧ o.size ≤ 8 ∧ o.num < 256 ^ o.size.toNat := by
                have := HGD.out; simp only [Opx.good, hnum, if_true] at this; exact of_decide_eq_true this
              have henc : o.enc = be o.num o.size.toNat := by simp only [Opx.enc, hnum, if_true]
              have hbv : beVal (((encs l).drop (encs (l.take i)).length).take o.size.toNat) = o.num := by
                rw [HDR.out, henc, List.take_append_of_le_length (by rw [be_length]; exact Nat.le_refl _), be_take_all, beVal_be, Nat.mod_eq_of_lt hg.2.2]
              have hle2 : (encs (l.take i)).length + o.size.toNat ≤ (encs l).length := by rw [henc, be_length] at hle; exact hle
              have HG := Lib.hid hg
              have HBV := Lib.hid hbv
              have HEN := Lib.hid henc
              clear hnum hg henc hbv
              go_wp2_with fail
              ((with_reducible refine (eye_uint_ok B u (encs l) (encs (l.take i)).length o.size.toNat _ _ (HEA.out _) (by omega) hle2 (by have := HG.out; omega) (by have := HG.out; omega) (by have := HG.out; omega)).mono ?_); rintro e w5 ⟨rfl, he5, hk5⟩)
              rw [HBV.out]
              have hob : w5.heap[wr.heap.size]? = some (.cells #[.int .i64 o.kind, .int .i64 o.size, .int .u64 o.num, .slice bo o.bs.length bc] 31 (0, 0)) := hk5.obj (heap_alloc_new wr _) (by omega)
              obtain ⟨a0, a1, a2, a3⟩ := cell_of_four hob
              have HE5 := Lib.hid he5
              have HK5 := Lib.hid hk5
              clear he5 hk5 hob c0 c1 c2 c3
              go_wp2
              go_roundw
              case rel =>
                refine ⟨i + 1, by omega, by go_num, ?_, ((HKK.out.alloc _).trans HK5.out (fun _ _ e => e))⟩
                rw [HTK.out, List.length_append, HEN.out, be_length]
                exact HE5.out
              case measure => simp [intOf]; omega
            · have hnum : o.isNum = false := by simp [Opx.isNum, hkb]
              have hg : o.bs.length ≤ 65535 := by
                have := HGD.out; simpa [Opx.good, hnum] using this
              have henc : o.enc = be o.bs.length 2 ++ o.bs := by simp [Opx.enc, hnum]
              have hne : o.enc ≠ [] := by rw [henc]; intro e; have := congrArg List.length e; simp [be_length] at this
              have hu := HUN.out hne
              have hd2 : ((encs l).drop (encs (l.take i)).length).take 2 = be o.bs.length 2 := by
                rw [HDR.out, henc, List.append_assoc, List.take_append_of_le_length (by rw [be_length]; exact Nat.le_refl _), be_take_all]
              have hbv : beVal (((encs l).drop (encs (l.take i)).length).take 2) = o.bs.length := by rw [hd2, beVal_be, Nat.mod_eq_of_lt (by omega)]
              have hpart : ((encs l).drop ((encs (l.take i)).length + 2)).take o.bs.length = o.bs := by
                rw [← List.drop_drop, HDR.out, henc, List.append_assoc, List.drop_append_of_le_length (by rw [be_length]; exact Nat.le_refl _)]
                rw [show (be o.bs.length 2).drop 2 = [] from List.drop_of_length_le (by rw [be_length]; exact Nat.le_refl _), List.nil_append, List.take_append_of_le_length (Nat.le_refl _), List.take_length]
              have hle2 : (encs (l.take i)).length + 2 + o.bs.length ≤ (encs l).length := by rw [henc, List.length_append, be_length] at hle; omega
              have HBV := Lib.hid hbv
              have HEN := Lib.hid henc
              have HPT := Lib.hid hpart
              have HU2 := Lib.hid hu
              clear hnum hg henc hbv hne hu hd2 hpart
              go_wp2_with fail
              ((with_reducible refine (eye_text_ok B u (encs l) (encs (l.take i)).length o.bs.length _ (HEA.out _) (by omega) hle2 HBV.out HU2.out).mono ?_); rintro e w5 ⟨r, rfl, ho5, he5, hk5⟩)
              rw [HPT.out] at ho5
              have hob : w5.heap[wr.heap.size]? = some (.cells #[.int .i64 o.kind, .int .i64 o.size, .int .u64 o.num, .slice bo o.bs.length bc] 31 (0, 0)) := hk5.obj (heap_alloc_new wr _) (by omega)
              obtain ⟨a0, a1, a2, a3⟩ := cell_of_four hob
              have hcv1 := run_string_own (P := Try.prog) 26 9 5 ho5 Try.underlying26 Try.underlying5 Try.underlying9
              have hk15 : Keeps (fun k => k = B) w1 w5 := (((H14.out.any).trans HKK.out (fun _ _ e => e)).alloc _).trans hk5 (fun _ _ e => e)
              have hcv2 : (convert 26 9 (.slice bo o.bs.length bc)).run Try.prog w5 = .ok (.string ⟨o.bs.toArray⟩) w5 := by
                rw [← HF.out]
                by_cases hnil : o.bs = []
                · rw [HF.out, hnil]
                  exact run_string_nil _ _ _ _ _ _ Try.underlying26 Try.underlying5 Try.underlying9
                · refine run_string (HBY.out.keeps hk15 (fun a n' c' ha => ?_)) 26 9 5 Try.underlying26 Try.underlying5 Try.underlying9 (fun a n' c' ha => HSP.out a n' c' ha hnil)
                  have h5 := HBY.out
                  rw [ha] at h5
                  have := h5.lt hnil
                  omega
              have HE5 := Lib.hid he5
              have HK5 := Lib.hid hk5
              clear he5 hk5 hob c0 c1 c2 c3 ho5 hk15
              go_wp2
              go_roundw
              case rel =>
                refine ⟨i + 1, by omega, by go_num, ?_, ((HKK.out.alloc _).trans HK5.out (fun _ _ e => e))⟩
                rw [HTK.out, List.length_append, HEN.out, List.length_append, be_length]
                have h6 := HE5.out
                rw [show (encs (l.take i)).length + (2 + o.bs.length) = (encs (l.take i)).length + 2 + o.bs.length from by omega]
                exact h6
              case measure => simp [intOf]; omega
          · have hin : l.take i = l := List.take_of_length_le (by omega)
            rw [hin] at heye
            have HE2 := Lib.hid heye
            clear heye hkk hin HE
            go_wp2_with fail
            ((with_reducible refine (end_ok B u (encs l) _ HE2.out (by omega)).mono ?_); rintro e w5 ⟨rfl, n5, rfl⟩)
            go_wp2
            go_ret
            have h1 : Same w1 wr := H14.out.trans HKK.out (fun k hk e => by omega)
            exact ⟨rfl, (HK.out.trans h1 (fun _ _ e => e)).drewN n5⟩

end Go.Proofs.Ytomjgdlekfppkaa
