/- shape.Inner and the document's: one parting. -/
import Derived.Test.YtfnbmigldciblaaShape4
namespace Go.Proofs.Ytfnbmigldciblaa
open Go.RowKit
set_option linter.unusedVariables false

theorem own_made_int (w : World) : (w.alloc (.cells #[] 3)).ownsRow w.heap.size 3 1 (.slice (some ⟨w.heap.size, 0, none⟩) 0 0) ([] : List Int).length (i64s []) := by
  have := World.ownsRow_made (base := w.heap.size) (e := 3) (size := 1) w #[] 0 (Nat.le_refl _) (by unfold maxLen; omega) (by simp)
  simpa [i64s] using this
theorem groupsTo_size {E : Nat → Nat → Prop} [∀ a b, Decidable (E a b)] {N f n : Nat} {zs : List Int} (hg : groupsTo E N (f + n - 1) = (zs, f)) (hn : 1 ≤ n) (h : f + n = N ∨ E f (f + n)) : groupsTo E N (f + n) = (zs ++ [(n : Int)], f + n) := by
  obtain ⟨m, rfl⟩ : ∃ m, n = m + 1 := ⟨n - 1, by omega⟩
  have e : f + (m + 1) - 1 = f + m := by omega
  rw [e] at hg
  have := groupsTo_end' (k := f + m) hg h
  rw [show f + (m + 1) = f + m + 1 from rfl, this]
  congr 2
  simp; omega
theorem groupsTo_more {E : Nat → Nat → Prop} [∀ a b, Decidable (E a b)] {N f n : Nat} {zs : List Int} (hg : groupsTo E N (f + n - 1) = (zs, f)) (hn : 1 ≤ n) (h : ¬ f + n = N) (h2 : ¬ E f (f + n)) : groupsTo E N (f + (n + 1) - 1) = (zs, f) := by
  obtain ⟨m, rfl⟩ : ∃ m, n = m + 1 := ⟨n - 1, by omega⟩
  have e : f + (m + 1) - 1 = f + m := by omega
  rw [e] at hg
  exact groupsTo_on' (k := f + m) hg h h2

/-- The groups of kids. -/
noncomputable def innerOf (rs : List (Value × List UInt8)) (level : Int) : List Int := (groupsTo (InnerEnds rs level) rs.length rs.length).1

set_option maxRecDepth 100000 in
set_option maxHeartbeats 3200000 in
theorem inner_any (ao : Option Addr) (cap : Nat) (level : Int) (rs : List (Value × List UInt8)) (w : World) (hr : Rows2 w (.slice ao rs.length cap) rs) (hm : rs.length ≤ 1000000) (hs : ∀ r ∈ rs, r.2.length ≤ 1000000) :
    Calls Try.prog 17 #[.slice ao rs.length cap, .int .i64 level] w fun e w' => ∃ v, e = .returned v ∧ w'.ownsRow w.heap.size 3 1 v (innerOf rs level).length (i64s (innerOf rs level)) ∧ Same w w' := by
  have h1 : ((w.alloc (.cells #[.slice ao rs.length cap] 32)).alloc (.cells #[.int .i64 level] 3)).heap[w.heap.size]? = some (.cells #[.slice ao rs.length cap] 32 (0, 0)) := ((Keeps.refl (fun _ => False) _).alloc _).obj (heap_alloc_new w _) (fun e => e)
  have h2 : ((w.alloc (.cells #[.slice ao rs.length cap] 32)).alloc (.cells #[.int .i64 level] 3)).heap[w.heap.size + 1]? = some (.cells #[.int .i64 level] 3 (0, 0)) := by have := heap_alloc_new (w.alloc (.cells #[.slice ao rs.length cap] 32)) (.cells #[.int .i64 level] 3); simpa using this
  have hk : Same w ((w.alloc (.cells #[.slice ao rs.length cap] 32)).alloc (.cells #[.int .i64 level] 3)) := ((Keeps.refl _ _).alloc _).alloc _
  have HF : Hid (∀ (f t : Nat) (w' : World), Same ((w.alloc (.cells #[.slice ao rs.length cap] 32)).alloc (.cells #[.int .i64 level] 3)) w' → f < t → t < rs.length → Calls Try.prog 23 (#[.int .i64 f, .int .i64 t] ++ #[.pointer (some ⟨w.heap.size, 0, none⟩), .pointer (some ⟨w.heap.size + 1, 0, none⟩)]) w' fun e w'' => ∃ b, e = .returned (.bool b) ∧ Same w' w'' ∧ (b = true ↔ InnerEnds rs level f t)) := Lib.hid fun f t w' hs' hft ht =>
    (innerEnds_ok w.heap.size (w.heap.size + 1) f t cap ao level rs w' (hs'.obj h1 (fun e => e)) (hs'.obj h2 (fun e => e)) (hr.same (hk.trans hs' (fun _ _ e => e))) hft ht hm hs).mono fun e w'' ⟨b, e1, ⟨n, e2⟩, e3⟩ => ⟨b, e1, by rw [e2]; exact (Keeps.refl _ _).drewN n, e3⟩
  have HK := Lib.hid hk
  clear h1 h2 hk hr hs
  go_enter Try.func17, Try.ntmps17
  go_wp2_with fail
  ((with_reducible refine (part_inner _ (InnerEnds rs level) rs.length _ hm HF.out).mono ?_); rintro e w1 ⟨v, rfl, ho, hk1⟩)
  have HO := Lib.hid ho
  have HK1 := Lib.hid hk1
  clear ho hk1
  go_wp2
  go_ret
  exact ⟨v, rfl, own_base HO.out HK.out.size, HK.out.trans HK1.out (fun _ _ e => e)⟩

set_option maxRecDepth 100000 in
set_option maxHeartbeats 6400000 in
theorem rinner_any (ao : Option Addr) (cap : Nat) (level : Int) (rs : List (Value × List UInt8)) (w : World) (hr : Rows2 w (.slice ao rs.length cap) rs) (hm : rs.length ≤ 1000000) (hs : ∀ r ∈ rs, r.2.length ≤ 1000000) :
    Calls Try.prog 18 #[.slice ao rs.length cap, .int .i64 level] w fun e w' => ∃ v, e = .returned v ∧ w'.ownsRow w.heap.size 3 1 v (innerOf rs level).length (i64s (innerOf rs level)) ∧ Same w w' := by
  have HR := Lib.hid hr
  have HSZ := Lib.hid hs
  clear hr hs
  obtain ⟨N, hN⟩ : ∃ N, rs.length = N := ⟨_, rfl⟩
  have HN := Lib.hid hN
  rw [hN] at hm ⊢
  clear hN
  obtain ⟨i0, hi0, hz0, hz1, hz2⟩ := info_parts8 Try.infoInt
  go_enter Try.func18, Try.ntmps18
  go_wp2
  go_loopw [5, 6, 7] (fun o i _ wr => ∃ f : Nat, f ≤ N ∧ i = .int .i64 f ∧ ∃ zs : List Int, groupsTo (InnerEnds rs level) N f = (zs, f) ∧ zs.length ≤ f ∧ wr.ownsRow w.heap.size 3 1 o zs.length (i64s zs) ∧ Same w wr) (fun _ i _ _ => N - (intOf i).toNat)
  case atStart => exact ⟨0, by omega, rfl, [], rfl, by simp, own_made_int w, (Keeps.refl _ _).alloc _⟩
  case round =>
    obtain ⟨f, hf, rfl, zs, hg, hzs, ho, hs⟩ := hrel
    have HO := Lib.hid ho
    have HS := Lib.hid hs
    have HG := Lib.hid hg
    have hwr : w.heap.size ≤ wr.heap.size := hs.size
    clear ho hs hg
    by_cases hlt : f < N
    · go_wp2
      go_loop [7] (fun i => ∃ n : Nat, 1 ≤ n ∧ f + n ≤ N ∧ n ≤ 4 ∧ i = .int .i64 n ∧ groupsTo (InnerEnds rs level) N (f + n - 1) = (zs, f)) (fun i => 4 - (intOf i).toNat)
      case atStart => exact ⟨1, by omega, by omega, by omega, rfl, HG.out⟩
      case round =>
        obtain ⟨n, hn1, hnN, hn4, rfl, hg2⟩ := hrel
        have HG2 := Lib.hid hg2
        clear hg2
        have w1 : IntKind.i64.wrap ((f : Int) + (n : Int)) = (f : Int) + (n : Int) := IntWalk.i64_in _ (by omega)
        by_cases q4 : (n : Int) < 4
        case neg =>
          go_wp2_with (at_builtin; refine wpList_append_int (by rfl) _ _ 29 3 i0 (by rfl) Try.underlying29 hi0 hz0 hz1 hz2 w.heap.size wr.heap.size 1 u5 zs (n : Int) (by rfl) (by rfl) (own_keeps ((Keeps.refl (fun _ => False) _).alloc _) HO.out (fun _ _ e => e)) (heap_alloc_new _ _) (by omega) (by simp; omega) ?_)
          intro gi ci w3 hown hgrow
          have HS3 := Lib.hid (append_int_same HS.out _ HO.out (Nat.le_refl _) hgrow)
          have HO3 := Lib.hid hown
          clear hown hgrow
          go_wp2
          go_roundw
          case rel => exact ⟨f + n, by omega, by go_num, zs ++ [(n : Int)], groupsTo_size HG2.out (by omega) (.inr (.inl (by omega))), by simp; omega, by rw [List.length_append]; exact HO3.out, HS3.out⟩
          case measure => simp [intOf]; omega
        by_cases qN : (f : Int) + (n : Int) < (N : Int)
        case neg =>
          go_wp2_with (at_builtin; refine wpList_append_int (by rfl) _ _ 29 3 i0 (by rfl) Try.underlying29 hi0 hz0 hz1 hz2 w.heap.size wr.heap.size 1 u5 zs (n : Int) (by rfl) (by rfl) (own_keeps ((Keeps.refl (fun _ => False) _).alloc _) HO.out (fun _ _ e => e)) (heap_alloc_new _ _) (by omega) (by simp; omega) ?_)
          intro gi ci w3 hown hgrow
          have HS3 := Lib.hid (append_int_same HS.out _ HO.out (Nat.le_refl _) hgrow)
          have HO3 := Lib.hid hown
          clear hown hgrow
          go_wp2
          go_roundw
          case rel => exact ⟨f + n, by omega, by go_num, zs ++ [(n : Int)], groupsTo_size HG2.out (by omega) (.inl (by omega)), by simp; omega, by rw [List.length_append]; exact HO3.out, HS3.out⟩
          case measure => simp [intOf]; omega
        by_cases q2 : (n : Int) < 2
        case pos =>
          have h2 : ¬ InnerEnds rs level f (f + n) := by
            rintro (h | ⟨h, _⟩)
            · omega
            · omega
          have H2 := Lib.hid h2
          clear h2
          go_wp2
          go_round
          case rel => exact ⟨n + 1, by omega, by omega, by omega, by go_num, groupsTo_more HG2.out hn1 (by omega) H2.out⟩
          case measure => simp [intOf]; omega
        have s1 : IntKind.i64.wrap ((f : Int) + (n : Int) - 1) = (f : Int) + (n : Int) - 1 := IntWalk.i64_in _ (by omega)
        have s2 : (0 : Int) ≤ (f : Int) + (n : Int) - 1 := by omega
        have s3 : (f : Int) + (n : Int) - 1 < (N : Int) := by omega
        have s4 : ((f : Int) + (n : Int) - 1).toNat = f + n - 1 := by omega
        have hj : f + n - 1 < rs.length := by have := HN.out; omega
        obtain ⟨a, xo, xc, rfl, hx1, hx2, hx3⟩ := (HR.out.same HS.out).at hj
        have hlen := HSZ.out _ (List.getElem_mem hj)
        have HE : Hid (markB rs[f + n - 1].2 level = true ↔ InnerEnds rs level f (f + n)) := Lib.hid (by
          rw [markB_iff]
          constructor
          · intro h; exact .inr ⟨by omega, _, List.getElem?_eq_getElem hj, h⟩
          · rintro (h | ⟨_, r, hr, h⟩)
            · omega
            · rw [List.getElem?_eq_getElem hj] at hr
              rw [Option.some.inj hr]; exact h)
        have HB := Lib.hid hx3
        generalize rs[f + n - 1].2 = bs at *
        clear hx1 hx3 hj
        go_wp2_with fail
        ((with_reducible refine (rmark_b xo bs.length xc level bs _ HB.out rfl (by omega)).mono ?_); rintro e w4 ⟨rfl, hw⟩; replace hw := hw.symm; subst hw)
        generalize markB bs level = b at *
        cases b with
        | true =>
          go_wp2_with (at_builtin; refine wpList_append_int (by rfl) _ _ 29 3 i0 (by rfl) Try.underlying29 hi0 hz0 hz1 hz2 w.heap.size wr.heap.size 1 u5 zs (n : Int) (by rfl) (by rfl) (own_keeps ((Keeps.refl (fun _ => False) _).alloc _) HO.out (fun _ _ e => e)) (heap_alloc_new _ _) (by omega) (by simp; omega) ?_)
          intro gi ci w3 hown hgrow
          have HS3 := Lib.hid (append_int_same HS.out _ HO.out (Nat.le_refl _) hgrow)
          have HO3 := Lib.hid hown
          clear hown hgrow
          go_wp2
          go_roundw
          case rel => exact ⟨f + n, by omega, by go_num, zs ++ [(n : Int)], groupsTo_size HG2.out (by omega) (.inr (HE.out.1 (by simp))), by simp; omega, by rw [List.length_append]; exact HO3.out, HS3.out⟩
          case measure => simp [intOf]; omega
        | false =>
          have h2 : ¬ InnerEnds rs level f (f + n) := fun h => by simpa using HE.out.2 h
          have H2 := Lib.hid h2
          clear h2
          go_wp2
          go_round
          case rel => exact ⟨n + 1, by omega, by omega, by omega, by go_num, groupsTo_more HG2.out hn1 (by omega) H2.out⟩
          case measure => simp [intOf]; omega
    · have hfN : f = N := by omega
      subst hfN
      go_wp2
      go_ret
      have := HN.out
      have hio : innerOf rs level = zs := by unfold innerOf; rw [HN.out, HG.out]
      rw [hio]
      exact ⟨_, rfl, HO.out, HS.out⟩

end Go.Proofs.Ytfnbmigldciblaa
