/- What is blank. -/
import Derived.Test.YtlglkkoippoafaaWm0
namespace Go.Proofs.Ytlglkkoippoafaa
open Go.RowKit
set_option linter.unusedVariables false

theorem str_empty {p : ByteArray} (h : ¬ p = ⟨#[]⟩) : (p.toList == []) = false ∧ ¬ p.toList = [] := by
  have h2 : ¬ p.toList = [] := by
    rw [toList_sb]; exact fun e => h (sb_inj (e.trans rfl))
  exact ⟨by simpa using h2, h2⟩

set_option maxRecDepth 100000 in
set_option maxHeartbeats 3200000 in
theorem blankOp_any (k off n : Int) (p t : ByteArray) (ao : Option Addr) (len cap : Nat) (w : World) :
    Calls Try.prog 43 #[opVal k off n p t (.slice ao len cap)] w fun e w' => e = .returned (.bool (decide (OpBlank k off n p t len))) ∧ Same w w' := by
  by_cases q1 : k = 0
  case neg =>
    rw [decide_eq_false (fun h => q1 h.1)]
    have e1 : (k == 0) = false := by simpa using q1
    go_enter Try.func43, Try.ntmps43
    go_wp2
    go_ret
    exact ⟨rfl, (Keeps.refl _ _).alloc _⟩
  by_cases q2 : p = ⟨#[]⟩
  case neg =>
    rw [decide_eq_false (fun h => q2 h.2.1)]
    obtain ⟨e1, e2⟩ := str_empty q2
    subst q1
    go_enter Try.func43, Try.ntmps43
    go_wp2
    go_ret
    exact ⟨rfl, (Keeps.refl _ _).alloc _⟩
  by_cases q3 : t = ⟨#[]⟩
  case neg =>
    rw [decide_eq_false (fun h => q3 h.2.2.1)]
    obtain ⟨e1, e2⟩ := str_empty q3
    subst q1
    subst q2
    go_enter Try.func43, Try.ntmps43
    go_wp2
    go_ret
    exact ⟨rfl, (Keeps.refl _ _).alloc _⟩
  by_cases q4 : off = 0
  case neg =>
    rw [decide_eq_false (fun h => q4 h.2.2.2.1)]
    have e1 : (off == 0) = false := by simpa using q4
    subst q1
    subst q2
    subst q3
    go_enter Try.func43, Try.ntmps43
    go_wp2
    go_ret
    exact ⟨rfl, (Keeps.refl _ _).alloc _⟩
  by_cases q5 : n = 0
  case neg =>
    rw [decide_eq_false (fun h => q5 h.2.2.2.2.1)]
    have e1 : (n == 0) = false := by simpa using q5
    subst q1
    subst q2
    subst q3
    subst q4
    go_enter Try.func43, Try.ntmps43
    go_wp2
    go_ret
    exact ⟨rfl, (Keeps.refl _ _).alloc _⟩
  rw [show decide (OpBlank k off n p t len) = ((len : Int) == 0) from by
    rw [Bool.eq_iff_iff]; simp only [decide_eq_true_eq, beq_iff_eq]
    exact ⟨fun h => by have := h.2.2.2.2.2; omega, fun h => ⟨q1, q2, q3, q4, q5, by omega⟩⟩]
  subst q1
  subst q2
  subst q3
  subst q4
  subst q5
  go_enter Try.func43, Try.ntmps43
  go_wp2
  go_ret
  exact ⟨rfl, (Keeps.refl _ _).alloc _⟩

set_option maxRecDepth 100000 in
set_option maxHeartbeats 3200000 in
theorem blankAns_any (c n : Int) (ao no : Option Addr) (len cap nl ncap : Nat) (w : World) :
    Calls Try.prog 44 #[ansVal c n (.slice ao len cap) (.slice no nl ncap)] w fun e w' => e = .returned (.bool (decide (AnsBlank c n len nl))) ∧ Same w w' := by
  by_cases q1 : c = 0
  case neg =>
    rw [decide_eq_false (fun h => q1 h.1)]
    have e1 : (c == 0) = false := by simpa using q1
    go_enter Try.func44, Try.ntmps44
    go_wp2
    go_ret
    exact ⟨rfl, (Keeps.refl _ _).alloc _⟩
  by_cases q2 : n = 0
  case neg =>
    rw [decide_eq_false (fun h => q2 h.2.1)]
    have e1 : (n == 0) = false := by simpa using q2
    subst q1
    go_enter Try.func44, Try.ntmps44
    go_wp2
    go_ret
    exact ⟨rfl, (Keeps.refl _ _).alloc _⟩
  by_cases q3 : len = 0
  case neg =>
    rw [decide_eq_false (fun h => q3 h.2.2.1)]
    have e1 : ((len : Int) == 0) = false := by simp; omega
    subst q1
    subst q2
    go_enter Try.func44, Try.ntmps44
    go_wp2
    go_ret
    exact ⟨rfl, (Keeps.refl _ _).alloc _⟩
  rw [show decide (AnsBlank c n len nl) = ((nl : Int) == 0) from by
    rw [Bool.eq_iff_iff]; simp only [decide_eq_true_eq, beq_iff_eq]
    exact ⟨fun h => by have := h.2.2.2; omega, fun h => ⟨q1, q2, q3, by omega⟩⟩]
  subst q1
  subst q2
  subst q3
  go_enter Try.func44, Try.ntmps44
  go_wp2
  go_ret
  exact ⟨rfl, (Keeps.refl _ _).alloc _⟩

set_option maxRecDepth 100000 in
set_option maxHeartbeats 3200000 in
theorem isPeer_any (n : Int) (w : World) : Calls Try.prog 35 #[.int .i64 n] w fun e w' => e = .returned (.bool (decide (0 ≤ n ∧ n ≤ 255))) ∧ w' = w := by
  by_cases q1 : 0 ≤ n
  case neg =>
    rw [decide_eq_false (fun h => q1 h.1)]
    go_enter Try.func35, Try.ntmps35
    go_wp2
    go_ret
    exact ⟨rfl, rfl⟩
  by_cases q2 : n ≤ 255
  · rw [decide_eq_true ⟨q1, q2⟩]
    go_enter Try.func35, Try.ntmps35
    go_wp2
    go_ret
    exact ⟨rfl, rfl⟩
  · rw [decide_eq_false (fun h => q2 h.2)]
    go_enter Try.func35, Try.ntmps35
    go_wp2
    go_ret
    exact ⟨rfl, rfl⟩

set_option maxRecDepth 100000 in
set_option maxHeartbeats 3200000 in
theorem blankCall_any (c : Int) (nr : Nat) (k off n : Int) (p t : ByteArray) (ao : Option Addr) (len cap : Nat) (w : World) :
    Calls Try.prog 42 #[.agg #[.int .i64 c, .int .u64 nr, .int .i64 k, .string p, .string t, .int .i64 off, .int .i64 n, .slice ao len cap]] w fun e w' => e = .returned (.bool (decide (c = 0 ∧ nr = 0 ∧ OpBlank k off n p t len))) ∧ Same w w' := by
  by_cases q1 : c = 0
  case neg =>
    rw [decide_eq_false (fun h => q1 h.1)]
    have e1 : (c == 0) = false := by simpa using q1
    go_enter Try.func42, Try.ntmps42
    go_wp2
    go_ret
    exact ⟨rfl, (Keeps.refl _ _).alloc _⟩
  by_cases q2 : nr = 0
  case neg =>
    rw [decide_eq_false (fun h => q2 h.2.1)]
    have e1 : ((nr : Int) == 0) = false := by simp; omega
    subst q1
    go_enter Try.func42, Try.ntmps42
    go_wp2
    go_ret
    exact ⟨rfl, (Keeps.refl _ _).alloc _⟩
  rw [show decide (c = 0 ∧ nr = 0 ∧ OpBlank k off n p t len) = decide (OpBlank k off n p t len) from decide_eq_decide.2 ⟨fun h => h.2.2, fun h => ⟨q1, q2, h⟩⟩]
  have HB := Lib.hid (fun w => blankOp_any k off n p t ao len cap w)
  unfold opVal at HB
  generalize decide (OpBlank k off n p t len) = b at HB ⊢
  subst q1
  subst q2
  have HK : Hid (Same w (w.alloc (.cells #[.int .i64 0, .int .u64 ((0 : Nat) : Int), .int .i64 k, .string p, .string t, .int .i64 off, .int .i64 n, .slice ao len cap] 38))) := Lib.hid ((Keeps.refl _ _).alloc _)
  have HR : Hid ((w.alloc (.cells #[.int .i64 0, .int .u64 ((0 : Nat) : Int), .int .i64 k, .string p, .string t, .int .i64 off, .int .i64 n, .slice ao len cap] 38)).rangeAt w.heap.size 2 [.int .i64 k, .string p, .string t, .int .i64 off, .int .i64 n, .slice ao len cap]) := Lib.hid (fun j v hj => by
    rw [cell_of_row _ _ _ _ _ _ (heap_alloc_new w _)]
    have : j < 6 := (List.getElem?_eq_some_iff.1 hj).1
    match j, this with
    | 0, _ => simpa using hj
    | 1, _ => simpa using hj
    | 2, _ => simpa using hj
    | 3, _ => simpa using hj
    | 4, _ => simpa using hj
    | 5, _ => simpa using hj)
  go_enter Try.func42, Try.ntmps42
  go_wp2_with fail
  ((with_reducible refine (HB.out _).mono ?_); rintro e w2 ⟨rfl, hk2⟩)
  have HK2 := Lib.hid (HK.out.trans hk2 (fun _ _ e => e))
  clear hk2
  go_wp2
  go_ret
  exact ⟨rfl, HK2.out⟩
end Go.Proofs.Ytlglkkoippoafaa
