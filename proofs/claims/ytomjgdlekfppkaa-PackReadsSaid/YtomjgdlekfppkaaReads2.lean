/- The walk of PackReads. -/
import Derived.Test.YtomjgdlekfppkaaReads1
namespace Go.Proofs.Ytomjgdlekfppkaa
open Go.RowKit
set_option linter.unusedVariables false

theorem own_r {w5 w6 : World} {base wb B2 n : Nat} {r : Value} {bs : List UInt8} (h : w5.ownsRow base 5 1 r n (u8s bs)) (hn : bs.length = n) (k : Keeps (fun k => k = B2) w5 w6) (h1 : wb ≤ base) (h2 : B2 < base) : w6.ownsRow wb 5 1 r bs.length (u8s bs) := by
  subst hn
  exact own_base (own_keeps k h (fun j e hj => by have := (h.lt j e).1; omega)) h1

set_option maxRecDepth 100000 in
set_option maxHeartbeats 1600000 in
theorem reads_great (ao0 : Option Addr) (c0 : Nat) (data : List UInt8) (ao : Option Addr) (cap : Nat) (ops : List Opx) (w : World) (hx : Bytes w (.slice ao0 data.length c0) data) (hc : data.length ≤ c0) (h : Script w ao ops) (hl : ops.length ≤ maxLen) :
    Calls Try.prog 4 #[.slice ao0 data.length c0, .slice ao ops.length cap] w fun e w' => e = .returned (.bool true) ∧ Same w w' := by
  have HS := Lib.hid h
  have HX := Lib.hid hx
  have HC := Lib.hid hc
  clear h hx hc
  go_enter Try.func4, Try.ntmps4
  go_wp2_with fail
  ((with_reducible refine (speaks_ok _).mono ?_); rintro e w1 ⟨rfl, hk1⟩)
  have hsc := HS.out.same hk1
  have hx1 := HX.out.same hk1
  have HK := Lib.hid hk1
  have HS1 := Lib.hid hsc
  have HX1 := Lib.hid hx1
  clear hk1 hsc hx1
  go_wp2_with fail
  ((with_reducible refine (great_any ao cap ops _ HS1.out hl).mono ?_); rintro e w2 ⟨b, rfl, rfl, hb⟩)
  cases b with
  | true =>
    clear hb
    go_wp2
    go_ret
    exact ⟨rfl, HK.out⟩
  | false =>
    have hw := hb rfl
    have hlen := weight_length ops
    have hlen2 : (ops.length : Int) ≤ 100000 := by omega
    have HW := Lib.hid hw
    clear hb hw hlen
    by_cases hbig : (1000000 : Int) < (data.length : Int)
    · go_wp2
      go_ret
      exact ⟨rfl, HK.out⟩
    have hd1 : data.length ≤ 1000000 := by omega
    obtain ⟨i0, hi0, hz0, hz1, hz2⟩ := info_parts Try.info5
    have hbo : (w1.alloc (.cells #[] 5)).ownsRow w1.heap.size 5 1 (.slice (some ⟨w1.heap.size, 0, none⟩) ([] : List UInt8).length 0) ([] : List UInt8).length (u8s []) := by
      have := World.ownsRow_made (base := w1.heap.size) (e := 5) (size := 1) w1 #[] 0 (Nat.le_refl _) (by unfold maxLen; omega) (by simp)
      simpa [u8s] using this
    have HBO := Lib.hid hbo
    have hxa : ∀ o, Bytes (w1.alloc o) (.slice ao0 data.length c0) data := fun o => HX1.out.same ((Keeps.refl _ _).alloc o)
    have HXA := Lib.hid hxa
    clear hbo hxa
    go_wp2_with (at_builtin; refine wpList_append_bytes (by rfl) _ _ 26 5 i0 (by rfl) Try.underlying26 hi0 hz0 hz1 hz2 w1.heap.size w1.heap.size 0 [] data (.slice ao0 data.length c0) (by rfl) (by rfl) HBO.out (HXA.out _) (by simp; omega) (by simp) ?_)
    intro gi ci w3 hown hgrow hat
    have hk3 : Same w1 w3 := ((Keeps.refl _ _).alloc _).grown hgrow (fun k e hk => by simp only [Option.some.injEq] at e; omega)
    have HO := Lib.hid (show w3.ownsRow w1.heap.size 5 1 (.slice (some ⟨gi, 0, none⟩) data.length ci) data.length (u8s data) by simpa using hown)
    have HK3 := Lib.hid hk3
    clear hown hgrow hat hk3
    go_wp2_with fail
    ((with_reducible refine (neweye_some ⟨gi, 0, none⟩ data.length ci data _ (Bytes.of_own' HO.out rfl) rfl (by omega)).mono ?_); rintro e w4 ⟨B1, u, rfl, hne, hu⟩)
    have HN := Lib.hid hne
    have HUN := Lib.hid hu
    clear hne hu
    go_wp2_with fail
    ((with_reducible refine (spoil_any w1.heap.size (.slice (some ⟨gi, 0, none⟩) data.length ci) data _ (own_keeps ((Keeps.refl (fun _ => False) _).alloc _) (own_keeps HN.out.same HO.out (fun _ _ e => e)) (fun _ _ e => e)) (by unfold maxLen; omega)).mono ?_); rintro e w5 ⟨rfl, hk5⟩)
    have h15 : Same w1 w4 := HK3.out.trans HN.out.same (fun _ _ e => e)
    have hin : RInv w5 w5 B1 w4.heap.size u ao0 c0 data 0 ∧ Same w1 w5 ∧ w1.heap.size ≤ B1 ∧ B1 < w5.heap.size ∧ w4.heap.size < w5.heap.size := by
      have hgi := HO.out.lt gi rfl
      have hz3 := HN.out.same.size
      have hz1 := h15.size
      have hB1 := HN.out.new
      have hB4 := HN.out.eye.lt
      have hro : ∀ k, RowOf (.slice (some ⟨gi, 0, none⟩) data.length ci) k → k = gi := fun k e => by simp only [RowOf, Value.ownBlock, Option.some.injEq] at e; exact e.symm
      have hz5 := hk5.size
      simp only [World.size_alloc] at hz5
      have hfar : ∀ a, ao0 = some a → data ≠ [] → a.block < w1.heap.size := by
        intro a e hn
        have h5 := HX1.out
        rw [e] at h5
        exact h5.lt hn
      refine ⟨⟨⟨?_, ⟨?_, ?_, Nat.zero_le _, HC.out, ?_⟩, by omega, ?_, ?_⟩, Keeps.refl _ _⟩, ?_, by omega, by omega, by omega⟩
      · exact (HN.out.eye.keeps ((Keeps.refl (fun _ => False) _).alloc _) (fun e => e) (fun _ _ e => e)).keeps hk5 (fun e => by have := hro _ e; omega) (fun j e hj => by have := HN.out.row j e; have := hro _ hj; omega)
      · exact hk5.obj (heap_alloc_new w4 _) (fun e => by have := hro _ e; omega)
      · by_cases hn : data = []
        · subst hn; exact Bytes.nil _ _ _
        · refine ((HX1.out.same (h15.alloc _))).keeps hk5 (fun a n c e hj => ?_)
          simp only [Value.slice.injEq] at e
          have := hfar a e.1 hn
          have := hro _ hj
          omega
      · intro a e hn
        have := hfar a e hn
        omega
      · intro e
        have := (HN.out.eye.own.lt _ e).2
        omega
      · intro a e hn
        have := hfar a e hn
        omega
      · exact (h15.alloc _).trans hk5 (fun j hj e => by have := hro _ e; omega)
    obtain ⟨hinv, h1w5, hb1, hb2, hb3⟩ := hin
    have HV := Lib.hid hinv
    have H15 := Lib.hid h1w5
    have hdl : data.length ≤ 1099511627776 := by omega
    have hB2 : w1.heap.size ≤ w4.heap.size := h15.size
    generalize w4.heap.size = B2 at *
    clear hinv h1w5 hk5 h15
    go_wp2
    go_loopw [39] (fun i wr => ∃ j : Nat, j ≤ ops.length ∧ i = .int .i64 j ∧ ∃ i, RInv w5 wr B1 B2 u ao0 c0 data i) (fun i _ => ops.length - (intOf i).toNat)
    case atStart => exact ⟨0, by omega, rfl, 0, HV.out⟩
    case round =>
      obtain ⟨j, hj, rfl, i, hin⟩ := hrel
      have hsame : Same w1 wr := H15.out.trans hin.keeps (fun j hj e => by rcases e with e | e <;> omega)
      by_cases hlt : j < ops.length
      · rcases HS1.out with h0 | ⟨g, off, rfl, hall⟩
        · subst h0; simp at hlt
        have ho := (hall j hlt).below hsame.below
        obtain ⟨bo, bc, hform⟩ := ho.bytes.form
        have hc0 := ho.c0
        have hc1 := ho.c1
        have hc2 := ho.c2
        have hc3 := ho.c3
        rw [hform] at hc3
        have hk3 := mask3 ops[j].kind
        have hiL := hin.two.eye.le
        have hBr1 := hin.two.eye.lt
        have hBr2 := hin.two.reye.lt
        have HIN := Lib.hid hin
        have HT4 : Hid (∀ x y z, Two (((wr.alloc x).alloc y).alloc z) B1 B2 u ao0 c0 data i) := Lib.hid fun x y z => hin.two.same ((((Keeps.refl _ _).alloc x).alloc y).alloc z)
        have HK4 : Hid (∀ x y z, Same wr (((wr.alloc x).alloc y).alloc z)) := Lib.hid fun x y z => (((Keeps.refl _ _).alloc x).alloc y).alloc z
        have HA0 : Hid (∀ x z, (((wr.alloc x).alloc (.cells #[] 5)).alloc z).ownsRow wr.heap.size 5 1 (.slice (some ⟨wr.heap.size + 1, 0, none⟩) 0 0) ([] : List UInt8).length (u8s [])) := Lib.hid fun x z => by
          have := own_base (own_empty (wr.alloc x) z) (show wr.heap.size ≤ (wr.alloc x).heap.size by simp)
          simpa using this
        have HU : Hid (i + 2 ≤ data.length → u ≠ .slice none 0 0) := Lib.hid fun _ => HUN.out
        generalize ops[j] = o at *
        have HB4 : Hid (∀ y z, (((wr.alloc (.cells #[.int .i64 o.kind, .int .i64 o.size, .int .u64 o.num, .slice bo o.bs.length bc] 31)).alloc y).alloc z).heap[wr.heap.size]? = some (.cells #[.int .i64 o.kind, .int .i64 o.size, .int .u64 o.num, .slice bo o.bs.length bc] 31 (0, 0))) := Lib.hid fun y z =>
          (((Keeps.refl (fun _ => False) _).alloc y).alloc z).obj (heap_alloc_new wr _) (fun e => e)
        clear ho hall hform hin hsame
        rcases hk3 with hk3 | hk3 | hk3 | hk3
        · by_cases h18 : o.size < 1 ∨ 8 < o.size
          · have H18 := Lib.hid h18
            clear h18
            go_wp2_with fail
            ((with_reducible refine (eye_uint_size _ _ _ H18.out).mono ?_); rintro e w5' ⟨rfl, rfl⟩)
            go_wp2_with fail
            ((with_reducible refine (reye_uint_size _ _ _ H18.out).mono ?_); rintro e w6 ⟨rfl, rfl⟩)

            obtain ⟨ab, hab, HR⟩ : ∃ ab : List UInt8, ab.length ≤ 1099511627776 ∧ Hid (ReadyR wr (((wr.alloc (.cells #[.int .i64 o.kind, .int .i64 o.size, .int .u64 o.num, .slice bo o.bs.length bc] 31)).alloc (.cells #[] 5)).alloc (.cells #[] 5)) B1 B2 u ao0 c0 data (i) (.slice (some ⟨wr.heap.size + 1, 0, none⟩) 0 0) (.slice (some ⟨wr.heap.size + 1 + 1, 0, none⟩) 0 0) ab) := ⟨[], by simp, Lib.hid ⟨(HT4.out _ _ _), (HK4.out _ _ _).any, (HA0.out _ _), (Bytes.nil _ _ _), (spot_lit _ _ _)⟩⟩

            have cv1 := run_string_own (P := Try.prog) 26 9 5 HR.out.avo Try.underlying26 Try.underlying5 Try.underlying9
            have cv2 := run_string (P := Try.prog) HR.out.bvo 26 9 5 Try.underlying26 Try.underlying5 Try.underlying9 HR.out.spot
            go_wp2_with fail
            ((with_reducible refine (eye_end_any B1 u data (i) _ HR.out.two.eye hdl).mono ?_); rintro e w7 ⟨rfl, k7, rfl⟩)
            clear cv1 cv2
            go_wp2_with fail
            ((with_reducible refine (reye_end_any B2 ao0 c0 data (i) _ (HR.out.two.reye.same ((Keeps.refl _ _).drewN k7)) hdl).mono ?_); rintro e w8 ⟨rfl, k8, rfl⟩)
            go_wp2_with fail
            ((with_reducible refine (spoil_any _ (.slice (some ⟨wr.heap.size + 1, 0, none⟩) 0 0) ab _ (own_keeps ((Keeps.refl (fun _ => False) _).drewN (k7 + k8)) HR.out.avo (fun _ _ e => e)) (by have := hab; unfold maxLen; omega)).mono ?_); rintro e w9 ⟨rfl, hk9⟩)
            have HK9 := Lib.hid hk9
            clear hk9
            go_wp2
            go_roundw
            case rel => exact ⟨j + 1, by omega, by go_num, i, HIN.out.next HR.out ((Keeps.refl _ _).drewN (k7 + k8)) HK9.out⟩
            case measure => simp [intOf]; omega
          · by_cases hsh : ((data.length : Int) - i) < o.size
            · have HSH := Lib.hid hsh
              have H18 := Lib.hid h18
              clear hsh h18
              go_wp2_with fail
              ((with_reducible refine (eye_uint_short B1 u data i _ _ (HT4.out _ _ _).eye hdl (by have := H18.out; omega) (by have := H18.out; omega) HSH.out).mono ?_); rintro e w5' ⟨rfl, k5, rfl⟩)
              go_wp2_with fail
              ((with_reducible refine (reye_uint_short B2 ao0 c0 data i _ _ ((HT4.out _ _ _).reye.same ((Keeps.refl _ _).drewN k5)) hdl (by have := H18.out; omega) (by have := H18.out; omega) HSH.out).mono ?_); rintro e w6 ⟨rfl, hk6⟩)
              have HK6 := Lib.hid hk6
              clear hk6

              obtain ⟨ab, hab, HR⟩ : ∃ ab : List UInt8, ab.length ≤ 1099511627776 ∧ Hid (ReadyR wr w6 B1 B2 u ao0 c0 data (i) (.slice (some ⟨wr.heap.size + 1, 0, none⟩) 0 0) (.slice (some ⟨wr.heap.size + 1 + 1, 0, none⟩) 0 0) ab) := ⟨[], by simp, Lib.hid ⟨((HT4.out _ _ _).same (((Keeps.refl _ _).drewN k5).trans HK6.out (fun _ _ e => e))), (Same.any (((HK4.out _ _ _).drewN k5).trans HK6.out (fun _ _ e => e))), (own_keeps (((Keeps.refl (fun _ => False) _).drewN k5).trans HK6.out (fun _ _ e => e)) (HA0.out _ _) (fun _ _ e => e)), (Bytes.nil _ _ _), (spot_lit _ _ _)⟩⟩

              have cv1 := run_string_own (P := Try.prog) 26 9 5 HR.out.avo Try.underlying26 Try.underlying5 Try.underlying9
              have cv2 := run_string (P := Try.prog) HR.out.bvo 26 9 5 Try.underlying26 Try.underlying5 Try.underlying9 HR.out.spot
              go_wp2_with fail
              ((with_reducible refine (eye_end_any B1 u data (i) _ HR.out.two.eye hdl).mono ?_); rintro e w7 ⟨rfl, k7, rfl⟩)
              clear cv1 cv2
              go_wp2_with fail
              ((with_reducible refine (reye_end_any B2 ao0 c0 data (i) _ (HR.out.two.reye.same ((Keeps.refl _ _).drewN k7)) hdl).mono ?_); rintro e w8 ⟨rfl, k8, rfl⟩)
              go_wp2_with fail
              ((with_reducible refine (spoil_any _ (.slice (some ⟨wr.heap.size + 1, 0, none⟩) 0 0) ab _ (own_keeps ((Keeps.refl (fun _ => False) _).drewN (k7 + k8)) HR.out.avo (fun _ _ e => e)) (by have := hab; unfold maxLen; omega)).mono ?_); rintro e w9 ⟨rfl, hk9⟩)
              have HK9 := Lib.hid hk9
              clear hk9
              go_wp2
              go_roundw
              case rel => exact ⟨j + 1, by omega, by go_num, i, HIN.out.next HR.out ((Keeps.refl _ _).drewN (k7 + k8)) HK9.out⟩
              case measure => simp [intOf]; omega
            · obtain ⟨sz, hsz⟩ := Int.eq_ofNat_of_zero_le (show 0 ≤ o.size by omega)
              have h1 : i + sz ≤ data.length := by omega
              have h2 : 1 ≤ sz ∧ sz ≤ 8 := by omega
              clear hsh h18
              rw [hsz] at hc1 HB4
              have HSZ := Lib.hid hsz
              clear hsz
              go_wp2_with fail
              ((with_reducible refine (eye_uint_ok B1 u data i sz _ _ (HT4.out _ _ _).eye hdl h1 h2.1 h2.2 rfl).mono ?_); rintro e w5' ⟨rfl, he5, hk5⟩)
              have hblk := hk5.obj (HB4.out _ _) (by show ¬ wr.heap.size = B1; omega)
              obtain ⟨a0, a1, a2, a3⟩ := cell_of_four hblk
              have HE5 := Lib.hid he5
              have HK5 := Lib.hid hk5
              clear he5 hk5 hblk
              go_wp2_with fail
              ((with_reducible refine (reye_uint_ok B2 ao0 c0 data i sz _ ((HT4.out _ _ _).reye1 HK5.out) hdl h1 h2.1 h2.2).mono ?_); rintro e w6 ⟨rfl, hr6, hk6⟩)
              have HR6 := Lib.hid hr6
              have HK6 := Lib.hid hk6
              clear hr6 hk6 a0 a1 a2 a3

              obtain ⟨ab, hab, HR⟩ : ∃ ab : List UInt8, ab.length ≤ 1099511627776 ∧ Hid (ReadyR wr w6 B1 B2 u ao0 c0 data (i + sz) (.slice (some ⟨wr.heap.size + 1, 0, none⟩) 0 0) (.slice (some ⟨wr.heap.size + 1 + 1, 0, none⟩) 0 0) ab) := ⟨[], by simp, Lib.hid ⟨((HT4.out (.cells #[] 0) (.cells #[] 0) (.cells #[] 0)).next HE5.out HK6.out HR6.out), (Twin.comp (HK4.out _ _ _) HK5.out HK6.out), (own_keeps HK6.out (own_keeps HK5.out (HA0.out _ _) (fun k e h => by simp only [Value.ownBlock, Option.some.injEq] at e; omega)) (fun k e h => by simp only [Value.ownBlock, Option.some.injEq] at e; omega)), (Bytes.nil _ _ _), (spot_lit _ _ _)⟩⟩

              have cv1 := run_string_own (P := Try.prog) 26 9 5 HR.out.avo Try.underlying26 Try.underlying5 Try.underlying9
              have cv2 := run_string (P := Try.prog) HR.out.bvo 26 9 5 Try.underlying26 Try.underlying5 Try.underlying9 HR.out.spot
              go_wp2_with fail
              ((with_reducible refine (eye_end_any B1 u data (i + sz) _ HR.out.two.eye hdl).mono ?_); rintro e w7 ⟨rfl, k7, rfl⟩)
              clear cv1 cv2
              go_wp2_with fail
              ((with_reducible refine (reye_end_any B2 ao0 c0 data (i + sz) _ (HR.out.two.reye.same ((Keeps.refl _ _).drewN k7)) hdl).mono ?_); rintro e w8 ⟨rfl, k8, rfl⟩)
              go_wp2_with fail
              ((with_reducible refine (spoil_any _ (.slice (some ⟨wr.heap.size + 1, 0, none⟩) 0 0) ab _ (own_keeps ((Keeps.refl (fun _ => False) _).drewN (k7 + k8)) HR.out.avo (fun _ _ e => e)) (by have := hab; unfold maxLen; omega)).mono ?_); rintro e w9 ⟨rfl, hk9⟩)
              have HK9 := Lib.hid hk9
              clear hk9
              go_wp2
              go_roundw
              case rel => exact ⟨j + 1, by omega, by go_num, i + sz, HIN.out.next HR.out ((Keeps.refl _ _).drewN (k7 + k8)) HK9.out⟩
              case measure => simp [intOf]; omega
        · by_cases h18 : o.size < 1 ∨ 8 < o.size
          · have H18 := Lib.hid h18
            clear h18
            go_wp2_with fail
            ((with_reducible refine (eye_uint_size _ _ _ H18.out).mono ?_); rintro e w5' ⟨rfl, rfl⟩)
            go_wp2_with fail
            ((with_reducible refine (reye_uint_size _ _ _ H18.out).mono ?_); rintro e w6 ⟨rfl, rfl⟩)

            obtain ⟨ab, hab, HR⟩ : ∃ ab : List UInt8, ab.length ≤ 1099511627776 ∧ Hid (ReadyR wr (((wr.alloc (.cells #[.int .i64 o.kind, .int .i64 o.size, .int .u64 o.num, .slice bo o.bs.length bc] 31)).alloc (.cells #[] 5)).alloc (.cells #[] 5)) B1 B2 u ao0 c0 data (i) (.slice (some ⟨wr.heap.size + 1, 0, none⟩) 0 0) (.slice (some ⟨wr.heap.size + 1 + 1, 0, none⟩) 0 0) ab) := ⟨[], by simp, Lib.hid ⟨(HT4.out _ _ _), (HK4.out _ _ _).any, (HA0.out _ _), (Bytes.nil _ _ _), (spot_lit _ _ _)⟩⟩

            have cv1 := run_string_own (P := Try.prog) 26 9 5 HR.out.avo Try.underlying26 Try.underlying5 Try.underlying9
            have cv2 := run_string (P := Try.prog) HR.out.bvo 26 9 5 Try.underlying26 Try.underlying5 Try.underlying9 HR.out.spot
            go_wp2_with fail
            ((with_reducible refine (eye_end_any B1 u data (i) _ HR.out.two.eye hdl).mono ?_); rintro e w7 ⟨rfl, k7, rfl⟩)
            clear cv1 cv2
            go_wp2_with fail
            ((with_reducible refine (reye_end_any B2 ao0 c0 data (i) _ (HR.out.two.reye.same ((Keeps.refl _ _).drewN k7)) hdl).mono ?_); rintro e w8 ⟨rfl, k8, rfl⟩)
            go_wp2_with fail
            ((with_reducible refine (spoil_any _ (.slice (some ⟨wr.heap.size + 1, 0, none⟩) 0 0) ab _ (own_keeps ((Keeps.refl (fun _ => False) _).drewN (k7 + k8)) HR.out.avo (fun _ _ e => e)) (by have := hab; unfold maxLen; omega)).mono ?_); rintro e w9 ⟨rfl, hk9⟩)
            have HK9 := Lib.hid hk9
            clear hk9
            go_wp2
            go_roundw
            case rel => exact ⟨j + 1, by omega, by go_num, i, HIN.out.next HR.out ((Keeps.refl _ _).drewN (k7 + k8)) HK9.out⟩
            case measure => simp [intOf]; omega
          · by_cases hsh : ((data.length : Int) - i) < o.size
            · have HSH := Lib.hid hsh
              have H18 := Lib.hid h18
              clear hsh h18
              go_wp2_with fail
              ((with_reducible refine (eye_uint_short B1 u data i _ _ (HT4.out _ _ _).eye hdl (by have := H18.out; omega) (by have := H18.out; omega) HSH.out).mono ?_); rintro e w5' ⟨rfl, k5, rfl⟩)
              go_wp2_with fail
              ((with_reducible refine (reye_uint_short B2 ao0 c0 data i _ _ ((HT4.out _ _ _).reye.same ((Keeps.refl _ _).drewN k5)) hdl (by have := H18.out; omega) (by have := H18.out; omega) HSH.out).mono ?_); rintro e w6 ⟨rfl, hk6⟩)
              have HK6 := Lib.hid hk6
              clear hk6

              obtain ⟨ab, hab, HR⟩ : ∃ ab : List UInt8, ab.length ≤ 1099511627776 ∧ Hid (ReadyR wr w6 B1 B2 u ao0 c0 data (i) (.slice (some ⟨wr.heap.size + 1, 0, none⟩) 0 0) (.slice (some ⟨wr.heap.size + 1 + 1, 0, none⟩) 0 0) ab) := ⟨[], by simp, Lib.hid ⟨((HT4.out _ _ _).same (((Keeps.refl _ _).drewN k5).trans HK6.out (fun _ _ e => e))), (Same.any (((HK4.out _ _ _).drewN k5).trans HK6.out (fun _ _ e => e))), (own_keeps (((Keeps.refl (fun _ => False) _).drewN k5).trans HK6.out (fun _ _ e => e)) (HA0.out _ _) (fun _ _ e => e)), (Bytes.nil _ _ _), (spot_lit _ _ _)⟩⟩

              have cv1 := run_string_own (P := Try.prog) 26 9 5 HR.out.avo Try.underlying26 Try.underlying5 Try.underlying9
              have cv2 := run_string (P := Try.prog) HR.out.bvo 26 9 5 Try.underlying26 Try.underlying5 Try.underlying9 HR.out.spot
              go_wp2_with fail
              ((with_reducible refine (eye_end_any B1 u data (i) _ HR.out.two.eye hdl).mono ?_); rintro e w7 ⟨rfl, k7, rfl⟩)
              clear cv1 cv2
              go_wp2_with fail
              ((with_reducible refine (reye_end_any B2 ao0 c0 data (i) _ (HR.out.two.reye.same ((Keeps.refl _ _).drewN k7)) hdl).mono ?_); rintro e w8 ⟨rfl, k8, rfl⟩)
              go_wp2_with fail
              ((with_reducible refine (spoil_any _ (.slice (some ⟨wr.heap.size + 1, 0, none⟩) 0 0) ab _ (own_keeps ((Keeps.refl (fun _ => False) _).drewN (k7 + k8)) HR.out.avo (fun _ _ e => e)) (by have := hab; unfold maxLen; omega)).mono ?_); rintro e w9 ⟨rfl, hk9⟩)
              have HK9 := Lib.hid hk9
              clear hk9
              go_wp2
              go_roundw
              case rel => exact ⟨j + 1, by omega, by go_num, i, HIN.out.next HR.out ((Keeps.refl _ _).drewN (k7 + k8)) HK9.out⟩
              case measure => simp [intOf]; omega
            · obtain ⟨sz, hsz⟩ := Int.eq_ofNat_of_zero_le (show 0 ≤ o.size by omega)
              have h1 : i + sz ≤ data.length := by omega
              have h2 : 1 ≤ sz ∧ sz ≤ 8 := by omega
              clear hsh h18
              rw [hsz] at hc1 HB4
              have HSZ := Lib.hid hsz
              clear hsz
              go_wp2_with fail
              ((with_reducible refine (eye_uint_ok B1 u data i sz _ _ (HT4.out _ _ _).eye hdl h1 h2.1 h2.2 rfl).mono ?_); rintro e w5' ⟨rfl, he5, hk5⟩)
              have hblk := hk5.obj (HB4.out _ _) (by show ¬ wr.heap.size = B1; omega)
              obtain ⟨a0, a1, a2, a3⟩ := cell_of_four hblk
              have HE5 := Lib.hid he5
              have HK5 := Lib.hid hk5
              clear he5 hk5 hblk
              go_wp2_with fail
              ((with_reducible refine (reye_uint_ok B2 ao0 c0 data i sz _ ((HT4.out _ _ _).reye1 HK5.out) hdl h1 h2.1 h2.2).mono ?_); rintro e w6 ⟨rfl, hr6, hk6⟩)
              have HR6 := Lib.hid hr6
              have HK6 := Lib.hid hk6
              clear hr6 hk6 a0 a1 a2 a3

              obtain ⟨ab, hab, HR⟩ : ∃ ab : List UInt8, ab.length ≤ 1099511627776 ∧ Hid (ReadyR wr w6 B1 B2 u ao0 c0 data (i + sz) (.slice (some ⟨wr.heap.size + 1, 0, none⟩) 0 0) (.slice (some ⟨wr.heap.size + 1 + 1, 0, none⟩) 0 0) ab) := ⟨[], by simp, Lib.hid ⟨((HT4.out (.cells #[] 0) (.cells #[] 0) (.cells #[] 0)).next HE5.out HK6.out HR6.out), (Twin.comp (HK4.out _ _ _) HK5.out HK6.out), (own_keeps HK6.out (own_keeps HK5.out (HA0.out _ _) (fun k e h => by simp only [Value.ownBlock, Option.some.injEq] at e; omega)) (fun k e h => by simp only [Value.ownBlock, Option.some.injEq] at e; omega)), (Bytes.nil _ _ _), (spot_lit _ _ _)⟩⟩

              have cv1 := run_string_own (P := Try.prog) 26 9 5 HR.out.avo Try.underlying26 Try.underlying5 Try.underlying9
              have cv2 := run_string (P := Try.prog) HR.out.bvo 26 9 5 Try.underlying26 Try.underlying5 Try.underlying9 HR.out.spot
              go_wp2_with fail
              ((with_reducible refine (eye_end_any B1 u data (i + sz) _ HR.out.two.eye hdl).mono ?_); rintro e w7 ⟨rfl, k7, rfl⟩)
              clear cv1 cv2
              go_wp2_with fail
              ((with_reducible refine (reye_end_any B2 ao0 c0 data (i + sz) _ (HR.out.two.reye.same ((Keeps.refl _ _).drewN k7)) hdl).mono ?_); rintro e w8 ⟨rfl, k8, rfl⟩)
              go_wp2_with fail
              ((with_reducible refine (spoil_any _ (.slice (some ⟨wr.heap.size + 1, 0, none⟩) 0 0) ab _ (own_keeps ((Keeps.refl (fun _ => False) _).drewN (k7 + k8)) HR.out.avo (fun _ _ e => e)) (by have := hab; unfold maxLen; omega)).mono ?_); rintro e w9 ⟨rfl, hk9⟩)
              have HK9 := Lib.hid hk9
              clear hk9
              go_wp2
              go_roundw
              case rel => exact ⟨j + 1, by omega, by go_num, i + sz, HIN.out.next HR.out ((Keeps.refl _ _).drewN (k7 + k8)) HK9.out⟩
              case measure => simp [intOf]; omega
        · by_cases hfl : data.length < i + 2 ∨ data.length < i + 2 + beVal ((data.drop i).take 2)
          · have HFL := Lib.hid hfl
            clear hfl
            go_wp2_with fail
            ((with_reducible refine (eye_text_fail B1 u data i _ (HT4.out _ _ _).eye hdl HFL.out).mono ?_); rintro e w5' ⟨rfl, he5, hk5⟩)
            have HE5 := Lib.hid he5
            have HK5 := Lib.hid hk5
            clear he5 hk5
            go_wp2_with fail
            ((with_reducible refine (reye_text_fail B2 ao0 c0 data i _ ((HT4.out _ _ _).reye1 HK5.out) hdl HFL.out).mono ?_); rintro e w6 ⟨gm, rfl, hk6⟩)
            have HK6 := Lib.hid hk6
            clear hk6

            obtain ⟨ab, hab, HR⟩ : ∃ ab : List UInt8, ab.length ≤ 1099511627776 ∧ Hid (ReadyR wr w6 B1 B2 u ao0 c0 data (i) (.slice none 0 0) (.slice (some ⟨gm, 0, none⟩) 0 0) ab) := ⟨[], by simp, Lib.hid ⟨((HT4.out (.cells #[] 0) (.cells #[] 0) (.cells #[] 0)).next HE5.out HK6.out.any (((HT4.out _ _ _).reye1 HK5.out).same HK6.out)), (Twin.comp (HK4.out _ _ _) HK5.out HK6.out.any), (own_nil8 _ _), (Bytes.nil _ _ _), (spot_lit _ _ _)⟩⟩

            have cv1 := run_string_own (P := Try.prog) 26 9 5 HR.out.avo Try.underlying26 Try.underlying5 Try.underlying9
            have cv2 := run_string (P := Try.prog) HR.out.bvo 26 9 5 Try.underlying26 Try.underlying5 Try.underlying9 HR.out.spot
            go_wp2_with fail
            ((with_reducible refine (eye_end_any B1 u data (i) _ HR.out.two.eye hdl).mono ?_); rintro e w7 ⟨rfl, k7, rfl⟩)
            clear cv1 cv2
            go_wp2_with fail
            ((with_reducible refine (reye_end_any B2 ao0 c0 data (i) _ (HR.out.two.reye.same ((Keeps.refl _ _).drewN k7)) hdl).mono ?_); rintro e w8 ⟨rfl, k8, rfl⟩)
            go_wp2_with fail
            ((with_reducible refine (spoil_any _ (.slice none 0 0) ab _ (own_keeps ((Keeps.refl (fun _ => False) _).drewN (k7 + k8)) HR.out.avo (fun _ _ e => e)) (by have := hab; unfold maxLen; omega)).mono ?_); rintro e w9 ⟨rfl, hk9⟩)
            have HK9 := Lib.hid hk9
            clear hk9
            go_wp2
            go_roundw
            case rel => exact ⟨j + 1, by omega, by go_num, i, HIN.out.next HR.out ((Keeps.refl _ _).drewN (k7 + k8)) HK9.out⟩
            case measure => simp [intOf]; omega
          · have h2 : i + 2 ≤ data.length := by omega
            obtain ⟨m, hm⟩ : ∃ m : Nat, beVal ((data.drop i).take 2) = m := ⟨_, rfl⟩
            have h3 : i + 2 + m ≤ data.length := by omega
            have HM := Lib.hid hm
            clear hfl hm
            go_wp2_with fail
            ((with_reducible refine (eye_text_ok B1 u data i m _ (HT4.out _ _ _).eye hdl h3 HM.out (HU.out h2)).mono ?_); rintro e w5' ⟨r, rfl, ho5, he5, hk5⟩)
            have HO5 := Lib.hid ho5
            have HE5 := Lib.hid he5
            have HK5 := Lib.hid hk5
            clear ho5 he5 hk5
            go_wp2_with fail
            ((with_reducible refine (reye_text_ok B2 ao0 c0 data i m _ ((HT4.out _ _ _).reye1 HK5.out) hdl h3 HM.out).mono ?_); rintro e w6 ⟨gm, cm, rfl, ho6, hr6, hk6⟩)
            have HO6 := Lib.hid ho6
            have HR6 := Lib.hid hr6
            have HK6 := Lib.hid hk6
            clear ho6 hr6 hk6
            have hpl : ((data.drop (i + 2)).take m).length = m := by simp; omega

            obtain ⟨ab, hab, HR⟩ : ∃ ab : List UInt8, ab.length ≤ 1099511627776 ∧ Hid (ReadyR wr w6 B1 B2 u ao0 c0 data (i + 2 + m) r (.slice (some ⟨gm, 0, none⟩) m cm) ab) := ⟨(data.drop (i + 2)).take m, by rw [hpl]; omega, Lib.hid ⟨((HT4.out (.cells #[] 0) (.cells #[] 0) (.cells #[] 0)).next HE5.out HK6.out HR6.out), (Twin.comp (HK4.out _ _ _) HK5.out HK6.out), (own_r HO5.out hpl HK6.out (by simp; omega) (by simp; omega)), (Bytes.of_own' HO6.out hpl), (spot_lit _ _ _)⟩⟩

            have cv1 := run_string_own (P := Try.prog) 26 9 5 HR.out.avo Try.underlying26 Try.underlying5 Try.underlying9
            have cv2 := run_string (P := Try.prog) HR.out.bvo 26 9 5 Try.underlying26 Try.underlying5 Try.underlying9 HR.out.spot
            go_wp2_with fail
            ((with_reducible refine (eye_end_any B1 u data (i + 2 + m) _ HR.out.two.eye hdl).mono ?_); rintro e w7 ⟨rfl, k7, rfl⟩)
            clear cv1 cv2
            go_wp2_with fail
            ((with_reducible refine (reye_end_any B2 ao0 c0 data (i + 2 + m) _ (HR.out.two.reye.same ((Keeps.refl _ _).drewN k7)) hdl).mono ?_); rintro e w8 ⟨rfl, k8, rfl⟩)
            go_wp2_with fail
            ((with_reducible refine (spoil_any _ r ab _ (own_keeps ((Keeps.refl (fun _ => False) _).drewN (k7 + k8)) HR.out.avo (fun _ _ e => e)) (by have := hab; unfold maxLen; omega)).mono ?_); rintro e w9 ⟨rfl, hk9⟩)
            have HK9 := Lib.hid hk9
            clear hk9
            go_wp2
            go_roundw
            case rel => exact ⟨j + 1, by omega, by go_num, i + 2 + m, HIN.out.next HR.out ((Keeps.refl _ _).drewN (k7 + k8)) HK9.out⟩
            case measure => simp [intOf]; omega
        · by_cases hneg : o.size < 0
          · go_wp2_with fail
            ((with_reducible refine (eye_raw_neg _ _ _ hneg).mono ?_); rintro e w5' ⟨rfl, rfl⟩)
            go_wp2_with fail
            ((with_reducible refine (reye_raw_neg _ _ _ hneg).mono ?_); rintro e w6 ⟨gm, rfl, hk6⟩)
            have HK6 := Lib.hid hk6
            clear hk6

            obtain ⟨ab, hab, HR⟩ : ∃ ab : List UInt8, ab.length ≤ 1099511627776 ∧ Hid (ReadyR wr w6 B1 B2 u ao0 c0 data (i) (.slice none 0 0) (.slice (some ⟨gm, 0, none⟩) 0 0) ab) := ⟨[], by simp, Lib.hid ⟨((HT4.out _ _ _).same HK6.out), (Same.any ((HK4.out _ _ _).trans HK6.out (fun _ _ e => e))), (own_nil8 _ _), (Bytes.nil _ _ _), (spot_lit _ _ _)⟩⟩

            have cv1 := run_string_own (P := Try.prog) 26 9 5 HR.out.avo Try.underlying26 Try.underlying5 Try.underlying9
            have cv2 := run_string (P := Try.prog) HR.out.bvo 26 9 5 Try.underlying26 Try.underlying5 Try.underlying9 HR.out.spot
            go_wp2_with fail
            ((with_reducible refine (eye_end_any B1 u data (i) _ HR.out.two.eye hdl).mono ?_); rintro e w7 ⟨rfl, k7, rfl⟩)
            clear cv1 cv2
            go_wp2_with fail
            ((with_reducible refine (reye_end_any B2 ao0 c0 data (i) _ (HR.out.two.reye.same ((Keeps.refl _ _).drewN k7)) hdl).mono ?_); rintro e w8 ⟨rfl, k8, rfl⟩)
            go_wp2_with fail
            ((with_reducible refine (spoil_any _ (.slice none 0 0) ab _ (own_keeps ((Keeps.refl (fun _ => False) _).drewN (k7 + k8)) HR.out.avo (fun _ _ e => e)) (by have := hab; unfold maxLen; omega)).mono ?_); rintro e w9 ⟨rfl, hk9⟩)
            have HK9 := Lib.hid hk9
            clear hk9
            go_wp2
            go_roundw
            case rel => exact ⟨j + 1, by omega, by go_num, i, HIN.out.next HR.out ((Keeps.refl _ _).drewN (k7 + k8)) HK9.out⟩
            case measure => simp [intOf]; omega
          · by_cases hsh : ((data.length : Int) - i) < o.size
            · have HSH := Lib.hid hsh
              clear hsh hneg
              go_wp2_with fail
              ((with_reducible refine (eye_raw_short B1 u data i _ _ (HT4.out _ _ _).eye hdl HSH.out).mono ?_); rintro e w5' ⟨rfl, k5, rfl⟩)
              go_wp2_with fail
              ((with_reducible refine (reye_raw_short B2 ao0 c0 data i _ _ ((HT4.out _ _ _).reye.same ((Keeps.refl _ _).drewN k5)) hdl HSH.out).mono ?_); rintro e w6 ⟨gm, rfl, hk6⟩)
              have HK6 := Lib.hid hk6
              clear hk6

              obtain ⟨ab, hab, HR⟩ : ∃ ab : List UInt8, ab.length ≤ 1099511627776 ∧ Hid (ReadyR wr w6 B1 B2 u ao0 c0 data (i) (.slice none 0 0) (.slice (some ⟨gm, 0, none⟩) 0 0) ab) := ⟨[], by simp, Lib.hid ⟨((HT4.out _ _ _).same (((Keeps.refl _ _).drewN k5).trans HK6.out (fun _ _ e => e))), (Same.any (((HK4.out _ _ _).drewN k5).trans HK6.out (fun _ _ e => e))), (own_nil8 _ _), (Bytes.nil _ _ _), (spot_lit _ _ _)⟩⟩

              have cv1 := run_string_own (P := Try.prog) 26 9 5 HR.out.avo Try.underlying26 Try.underlying5 Try.underlying9
              have cv2 := run_string (P := Try.prog) HR.out.bvo 26 9 5 Try.underlying26 Try.underlying5 Try.underlying9 HR.out.spot
              go_wp2_with fail
              ((with_reducible refine (eye_end_any B1 u data (i) _ HR.out.two.eye hdl).mono ?_); rintro e w7 ⟨rfl, k7, rfl⟩)
              clear cv1 cv2
              go_wp2_with fail
              ((with_reducible refine (reye_end_any B2 ao0 c0 data (i) _ (HR.out.two.reye.same ((Keeps.refl _ _).drewN k7)) hdl).mono ?_); rintro e w8 ⟨rfl, k8, rfl⟩)
              go_wp2_with fail
              ((with_reducible refine (spoil_any _ (.slice none 0 0) ab _ (own_keeps ((Keeps.refl (fun _ => False) _).drewN (k7 + k8)) HR.out.avo (fun _ _ e => e)) (by have := hab; unfold maxLen; omega)).mono ?_); rintro e w9 ⟨rfl, hk9⟩)
              have HK9 := Lib.hid hk9
              clear hk9
              go_wp2
              go_roundw
              case rel => exact ⟨j + 1, by omega, by go_num, i, HIN.out.next HR.out ((Keeps.refl _ _).drewN (k7 + k8)) HK9.out⟩
              case measure => simp [intOf]; omega
            · obtain ⟨sz, hsz⟩ := Int.eq_ofNat_of_zero_le (show 0 ≤ o.size by omega)
              have h1 : i + sz ≤ data.length := by omega
              clear hsh hneg
              rw [hsz] at hc1 HB4
              have HSZ := Lib.hid hsz
              clear hsz
              go_wp2_with fail
              ((with_reducible refine (eye_raw_ok B1 u data i sz _ (HT4.out _ _ _).eye hdl h1 HUN.out).mono ?_); rintro e w5' ⟨r, rfl, ho5, he5, hk5⟩)
              have hblk := hk5.obj (HB4.out _ _) (by show ¬ wr.heap.size = B1; omega)
              obtain ⟨a0, a1, a2, a3⟩ := cell_of_four hblk
              have HO5 := Lib.hid ho5
              have HE5 := Lib.hid he5
              have HK5 := Lib.hid hk5
              clear ho5 he5 hk5 hblk
              go_wp2_with fail
              ((with_reducible refine (reye_raw_ok B2 ao0 c0 data i sz _ ((HT4.out _ _ _).reye1 HK5.out) hdl h1).mono ?_); rintro e w6 ⟨gm, cm, rfl, ho6, hr6, hk6⟩)
              have HO6 := Lib.hid ho6
              have HR6 := Lib.hid hr6
              have HK6 := Lib.hid hk6
              clear ho6 hr6 hk6 a0 a1 a2 a3
              have hpl : ((data.drop i).take sz).length = sz := by simp; omega

              obtain ⟨ab, hab, HR⟩ : ∃ ab : List UInt8, ab.length ≤ 1099511627776 ∧ Hid (ReadyR wr w6 B1 B2 u ao0 c0 data (i + sz) r (.slice (some ⟨gm, 0, none⟩) sz cm) ab) := ⟨(data.drop i).take sz, by rw [hpl]; omega, Lib.hid ⟨((HT4.out (.cells #[] 0) (.cells #[] 0) (.cells #[] 0)).next HE5.out HK6.out HR6.out), (Twin.comp (HK4.out _ _ _) HK5.out HK6.out), (own_r HO5.out hpl HK6.out (by simp; omega) (by simp; omega)), (Bytes.of_own' HO6.out hpl), (spot_lit _ _ _)⟩⟩

              have cv1 := run_string_own (P := Try.prog) 26 9 5 HR.out.avo Try.underlying26 Try.underlying5 Try.underlying9
              have cv2 := run_string (P := Try.prog) HR.out.bvo 26 9 5 Try.underlying26 Try.underlying5 Try.underlying9 HR.out.spot
              go_wp2_with fail
              ((with_reducible refine (eye_end_any B1 u data (i + sz) _ HR.out.two.eye hdl).mono ?_); rintro e w7 ⟨rfl, k7, rfl⟩)
              clear cv1 cv2
              go_wp2_with fail
              ((with_reducible refine (reye_end_any B2 ao0 c0 data (i + sz) _ (HR.out.two.reye.same ((Keeps.refl _ _).drewN k7)) hdl).mono ?_); rintro e w8 ⟨rfl, k8, rfl⟩)
              go_wp2_with fail
              ((with_reducible refine (spoil_any _ r ab _ (own_keeps ((Keeps.refl (fun _ => False) _).drewN (k7 + k8)) HR.out.avo (fun _ _ e => e)) (by have := hab; unfold maxLen; omega)).mono ?_); rintro e w9 ⟨rfl, hk9⟩)
              have HK9 := Lib.hid hk9
              clear hk9
              go_wp2
              go_roundw
              case rel => exact ⟨j + 1, by omega, by go_num, i + sz, HIN.out.next HR.out ((Keeps.refl _ _).drewN (k7 + k8)) HK9.out⟩
              case measure => simp [intOf]; omega
      · clear HV
        go_wp2
        go_ret
        exact ⟨rfl, HK.out.trans hsame (fun _ _ e => e)⟩

end Go.Proofs.Ytomjgdlekfppkaa
