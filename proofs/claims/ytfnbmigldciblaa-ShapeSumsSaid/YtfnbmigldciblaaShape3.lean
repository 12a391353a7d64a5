/- What shape.part does with a function that tells where groups end. -/
import Derived.Test.YtfnbmigldciblaaShape2
namespace Go.Proofs.Ytfnbmigldciblaa
open Go.RowKit
set_option linter.unusedVariables false

/-- The groups, and the beginning of the one that is under way, behind k things of N. -/
def groupsTo (E : Nat → Nat → Prop) [∀ a b, Decidable (E a b)] (N : Nat) : Nat → List Int × Nat
  | 0 => ([], 0)
  | k + 1 => if k + 1 = N ∨ E (groupsTo E N k).2 (k + 1) then ((groupsTo E N k).1 ++ [((k + 1 : Nat) : Int) - ((groupsTo E N k).2 : Nat)], k + 1) else groupsTo E N k
theorem groupsTo_le (E : Nat → Nat → Prop) [∀ a b, Decidable (E a b)] (N : Nat) : ∀ k, (groupsTo E N k).2 ≤ k ∧ (groupsTo E N k).1.length ≤ k
  | 0 => by simp [groupsTo]
  | k + 1 => by
    have h := groupsTo_le E N k
    unfold groupsTo
    split
    · simp; omega
    · omega

theorem groupsTo_end (E : Nat → Nat → Prop) [∀ a b, Decidable (E a b)] (N k : Nat) (h : k + 1 = N ∨ E (groupsTo E N k).2 (k + 1)) : groupsTo E N (k + 1) = ((groupsTo E N k).1 ++ [((k + 1 : Nat) : Int) - ((groupsTo E N k).2 : Nat)], k + 1) := by
  conv => lhs; unfold groupsTo
  rw [if_pos h]
theorem groupsTo_on (E : Nat → Nat → Prop) [∀ a b, Decidable (E a b)] (N k : Nat) (h : ¬ (k + 1 = N ∨ E (groupsTo E N k).2 (k + 1))) : groupsTo E N (k + 1) = groupsTo E N k := by
  conv => lhs; unfold groupsTo
  rw [if_neg h]
theorem groupsTo_end' {E : Nat → Nat → Prop} [∀ a b, Decidable (E a b)] {N k fr : Nat} {zs : List Int} (hg : groupsTo E N k = (zs, fr)) (h : k + 1 = N ∨ E fr (k + 1)) : groupsTo E N (k + 1) = (zs ++ [(k : Int) + 1 - (fr : Int)], k + 1) := by
  rw [groupsTo_end E N k (by rw [hg]; exact h), hg]; simp
theorem groupsTo_on' {E : Nat → Nat → Prop} [∀ a b, Decidable (E a b)] {N k fr : Nat} {zs : List Int} (hg : groupsTo E N k = (zs, fr)) (h : ¬ k + 1 = N) (h2 : ¬ E fr (k + 1)) : groupsTo E N (k + 1) = (zs, fr) := by
  rw [groupsTo_on E N k (by rw [hg]; exact fun e => e.elim h h2), hg]
theorem Try.infoInt : (Try.prog.info? 3).map (fun i => (i.zero, i.size, i.bytes)) = some (some (.int .i64 0), 1, 8) := by kernel_rfl
theorem info_parts8 {P : Program} {t : TypeId} {z : Value} {s b : Nat} (h : (P.info? t).map (fun i => (i.zero, i.size, i.bytes)) = some (some z, s, b)) : ∃ i, P.info? t = some i ∧ i.zero = some z ∧ i.size = s ∧ i.bytes = b := by
  cases hh : P.info? t with
  | none => rw [hh] at h; simp at h
  | some i =>
    rw [hh] at h
    simp only [Option.map_some, Option.some.injEq, Prod.mk.injEq] at h
    exact ⟨i, rfl, h.1, h.2.1, h.2.2⟩

set_option maxRecDepth 100000 in
set_option maxHeartbeats 6400000 in
theorem part_inner (cap : Array Value) (E : Nat → Nat → Prop) [∀ a b, Decidable (E a b)] (N : Nat) (w : World) (hN : N ≤ 1000000)
    (hF : ∀ (f t : Nat) (w' : World), Same w w' → f < t → t < N → Calls Try.prog 23 (#[.int .i64 f, .int .i64 t] ++ cap) w' fun e w'' => ∃ b, e = .returned (.bool b) ∧ Same w' w'' ∧ (b = true ↔ E f t)) :
    Calls Try.prog 19 #[.int .i64 N, .func (.func 23) #[] cap] w fun e w' => ∃ v, e = .returned v ∧ w'.ownsRow w.heap.size 3 1 v (groupsTo E N N).1.length (i64s (groupsTo E N N).1) ∧ Same w w' := by
  have HF := Lib.hid hF
  clear hF
  obtain ⟨i0, hi0, hz0, hz1, hz2⟩ := info_parts8 Try.infoInt
  go_enter Try.func19, Try.ntmps19
  go_wp2
  go_loopw [5, 6, 7] (fun g f i wr => ∃ k : Nat, k ≤ N ∧ i = .int .i64 ((k : Int) + 1) ∧ ∃ (fr : Nat) (zs : List Int), f = .int .i64 fr ∧ groupsTo E N k = (zs, fr) ∧ fr ≤ k ∧ zs.length ≤ k ∧ wr.ownsRow w.heap.size 3 1 g zs.length (i64s zs) ∧ Same w wr) (fun _ _ i _ => N + 2 - (intOf i).toNat)
  case atStart => exact ⟨0, by omega, rfl, 0, [], rfl, rfl, by omega, by simp, World.ownsRow_nil _ _ _ _, Keeps.refl _ _⟩
  case round =>
    obtain ⟨k, hk, rfl, fr, zs, rfl, hg, hfr, hzs, ho, hs⟩ := hrel
    have HO := Lib.hid ho
    have HS := Lib.hid hs
    have HG := Lib.hid hg
    have hwr : w.heap.size ≤ wr.heap.size := hs.size
    have wd : IntKind.i64.wrap ((k : Int) + 1 - (fr : Int)) = (k : Int) + 1 - (fr : Int) := IntWalk.i64_in _ (by omega)
    clear ho hs hg
    by_cases hlt : k < N
    · have hk2 : (k : Int) + 1 ≤ (N : Int) := by omega
      by_cases he : k + 1 = N
      · have hk3 : (((k : Int) + 1) == (N : Int)) = true := by simp; omega
        go_wp2_with (at_builtin; refine wpList_append_int (by rfl) _ _ 29 3 i0 (by rfl) Try.underlying29 hi0 hz0 hz1 hz2 w.heap.size wr.heap.size 1 u5 zs ((k : Int) + 1 - (fr : Int)) (by rfl) (by rfl) (own_keeps ((Keeps.refl (fun _ => False) _).alloc _) HO.out (fun _ _ e => e)) (heap_alloc_new _ _) (by omega) (by simp; omega) ?_)
        intro gi ci w3 hown hgrow
        have HS3 := Lib.hid (append_int_same HS.out _ HO.out (Nat.le_refl _) hgrow)
        have HO3 := Lib.hid hown
        clear hown hgrow
        go_wp2
        go_roundw
        case rel => exact ⟨k + 1, by omega, by go_num, k + 1, zs ++ [(k : Int) + 1 - (fr : Int)], by go_num, groupsTo_end' HG.out (.inl he), by omega, by simp; omega, by rw [List.length_append]; exact HO3.out, HS3.out⟩
        case measure => simp [intOf]; omega
      · have hk1 : ¬ (k : Int) + 1 = (N : Int) := by omega
        have hk3 : (((k : Int) + 1) == (N : Int)) = false := by simp; omega
        have hc := HF.out fr (k + 1) wr HS.out (by omega) (by omega)
        rw [show ((k + 1 : Nat) : Int) = (k : Int) + 1 from by omega] at hc
        go_wp2_with fail
        ((with_reducible refine hc.mono ?_); rintro e w4 ⟨b, rfl, hk4, hb⟩)
        have HS4 := Lib.hid (HS.out.trans hk4 (fun _ _ e => e))
        have HO4 := Lib.hid (own_keeps hk4 HO.out (fun _ _ e => e))
        have HB := Lib.hid hb
        have hwr4 : w.heap.size ≤ w4.heap.size := HS4.out.size
        clear hk4 hb hc
        cases b with
        | true =>
          go_wp2_with (at_builtin; refine wpList_append_int (by rfl) _ _ 29 3 i0 (by rfl) Try.underlying29 hi0 hz0 hz1 hz2 w.heap.size w4.heap.size 1 u5 zs ((k : Int) + 1 - (fr : Int)) (by rfl) (by rfl) (own_keeps ((Keeps.refl (fun _ => False) _).alloc _) HO4.out (fun _ _ e => e)) (heap_alloc_new _ _) (by omega) (by simp; omega) ?_)
          intro gi ci w3 hown hgrow
          have HS3 := Lib.hid (append_int_same HS4.out _ HO4.out (Nat.le_refl _) hgrow)
          have HO3 := Lib.hid hown
          clear hown hgrow
          go_wp2
          go_roundw
          case rel => exact ⟨k + 1, by omega, by go_num, k + 1, zs ++ [(k : Int) + 1 - (fr : Int)], by go_num, groupsTo_end' HG.out (.inr (HB.out.1 (by simp))), by omega, by simp; omega, by rw [List.length_append]; exact HO3.out, HS3.out⟩
          case measure => simp [intOf]; omega
        | false =>
          go_wp2
          go_roundw
          case rel => exact ⟨k + 1, by omega, by go_num, fr, zs, rfl, groupsTo_on' HG.out he (fun h => by simpa using HB.out.2 h), by omega, by omega, HO4.out, HS4.out⟩
          case measure => simp [intOf]; omega
    · have hkN : k = N := by omega
      subst hkN
      have hk2 : ¬ (k : Int) + 1 ≤ (k : Int) := by omega
      go_wp2
      go_ret
      rw [HG.out]
      exact ⟨_, rfl, HO.out, HS.out⟩
set_option maxRecDepth 100000 in
set_option maxHeartbeats 6400000 in
theorem part_leaves (cap : Array Value) (E : Nat → Nat → Prop) [∀ a b, Decidable (E a b)] (N : Nat) (w : World) (hN : N ≤ 1000000)
    (hF : ∀ (f t : Nat) (w' : World), Same w w' → f < t → t < N → Calls Try.prog 20 (#[.int .i64 f, .int .i64 t] ++ cap) w' fun e w'' => ∃ b, e = .returned (.bool b) ∧ Same w' w'' ∧ (b = true ↔ E f t)) :
    Calls Try.prog 19 #[.int .i64 N, .func (.func 20) #[] cap] w fun e w' => ∃ v, e = .returned v ∧ w'.ownsRow w.heap.size 3 1 v (groupsTo E N N).1.length (i64s (groupsTo E N N).1) ∧ Same w w' := by
  have HF := Lib.hid hF
  clear hF
  obtain ⟨i0, hi0, hz0, hz1, hz2⟩ := info_parts8 Try.infoInt
  go_enter Try.func19, Try.ntmps19
  go_wp2
  go_loopw [5, 6, 7] (fun g f i wr => ∃ k : Nat, k ≤ N ∧ i = .int .i64 ((k : Int) + 1) ∧ ∃ (fr : Nat) (zs : List Int), f = .int .i64 fr ∧ groupsTo E N k = (zs, fr) ∧ fr ≤ k ∧ zs.length ≤ k ∧ wr.ownsRow w.heap.size 3 1 g zs.length (i64s zs) ∧ Same w wr) (fun _ _ i _ => N + 2 - (intOf i).toNat)
  case atStart => exact ⟨0, by omega, rfl, 0, [], rfl, rfl, by omega, by simp, World.ownsRow_nil _ _ _ _, Keeps.refl _ _⟩
  case round =>
    obtain ⟨k, hk, rfl, fr, zs, rfl, hg, hfr, hzs, ho, hs⟩ := hrel
    have HO := Lib.hid ho
    have HS := Lib.hid hs
    have HG := Lib.hid hg
    have hwr : w.heap.size ≤ wr.heap.size := hs.size
    have wd : IntKind.i64.wrap ((k : Int) + 1 - (fr : Int)) = (k : Int) + 1 - (fr : Int) := IntWalk.i64_in _ (by omega)
    clear ho hs hg
    by_cases hlt : k < N
    · have hk2 : (k : Int) + 1 ≤ (N : Int) := by omega
      by_cases he : k + 1 = N
      · have hk3 : (((k : Int) + 1) == (N : Int)) = true := by simp; omega
        go_wp2_with (at_builtin; refine wpList_append_int (by rfl) _ _ 29 3 i0 (by rfl) Try.underlying29 hi0 hz0 hz1 hz2 w.heap.size wr.heap.size 1 u5 zs ((k : Int) + 1 - (fr : Int)) (by rfl) (by rfl) (own_keeps ((Keeps.refl (fun _ => False) _).alloc _) HO.out (fun _ _ e => e)) (heap_alloc_new _ _) (by omega) (by simp; omega) ?_)
        intro gi ci w3 hown hgrow
        have HS3 := Lib.hid (append_int_same HS.out _ HO.out (Nat.le_refl _) hgrow)
        have HO3 := Lib.hid hown
        clear hown hgrow
        go_wp2
        go_roundw
        case rel => exact ⟨k + 1, by omega, by go_num, k + 1, zs ++ [(k : Int) + 1 - (fr : Int)], by go_num, groupsTo_end' HG.out (.inl he), by omega, by simp; omega, by rw [List.length_append]; exact HO3.out, HS3.out⟩
        case measure => simp [intOf]; omega
      · have hk1 : ¬ (k : Int) + 1 = (N : Int) := by omega
        have hk3 : (((k : Int) + 1) == (N : Int)) = false := by simp; omega
        have hc := HF.out fr (k + 1) wr HS.out (by omega) (by omega)
        rw [show ((k + 1 : Nat) : Int) = (k : Int) + 1 from by omega] at hc
        go_wp2_with fail
        ((with_reducible refine hc.mono ?_); rintro e w4 ⟨b, rfl, hk4, hb⟩)
        have HS4 := Lib.hid (HS.out.trans hk4 (fun _ _ e => e))
        have HO4 := Lib.hid (own_keeps hk4 HO.out (fun _ _ e => e))
        have HB := Lib.hid hb
        have hwr4 : w.heap.size ≤ w4.heap.size := HS4.out.size
        clear hk4 hb hc
        cases b with
        | true =>
          go_wp2_with (at_builtin; refine wpList_append_int (by rfl) _ _ 29 3 i0 (by rfl) Try.underlying29 hi0 hz0 hz1 hz2 w.heap.size w4.heap.size 1 u5 zs ((k : Int) + 1 - (fr : Int)) (by rfl) (by rfl) (own_keeps ((Keeps.refl (fun _ => False) _).alloc _) HO4.out (fun _ _ e => e)) (heap_alloc_new _ _) (by omega) (by simp; omega) ?_)
          intro gi ci w3 hown hgrow
          have HS3 := Lib.hid (append_int_same HS4.out _ HO4.out (Nat.le_refl _) hgrow)
          have HO3 := Lib.hid hown
          clear hown hgrow
          go_wp2
          go_roundw
          case rel => exact ⟨k + 1, by omega, by go_num, k + 1, zs ++ [(k : Int) + 1 - (fr : Int)], by go_num, groupsTo_end' HG.out (.inr (HB.out.1 (by simp))), by omega, by simp; omega, by rw [List.length_append]; exact HO3.out, HS3.out⟩
          case measure => simp [intOf]; omega
        | false =>
          go_wp2
          go_roundw
          case rel => exact ⟨k + 1, by omega, by go_num, fr, zs, rfl, groupsTo_on' HG.out he (fun h => by simpa using HB.out.2 h), by omega, by omega, HO4.out, HS4.out⟩
          case measure => simp [intOf]; omega
    · have hkN : k = N := by omega
      subst hkN
      have hk2 : ¬ (k : Int) + 1 ≤ (k : Int) := by omega
      go_wp2
      go_ret
      rw [HG.out]
      exact ⟨_, rfl, HO.out, HS.out⟩

end Go.Proofs.Ytfnbmigldciblaa
