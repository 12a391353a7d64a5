/- Answers: whether they are right. -/
import Derived.Test.YtafgiljgefeefaaDoorOp1
namespace Go.Proofs.YtafgiljgefeefaaDoor
open Go.RowKit
set_option linter.unusedVariables false

/-- What an answer must be to be right. -/
def NameOk (s : ByteArray) : Prop := 1 ≤ s.size ∧ s.size ≤ 8
def AnsRight (c n : Int) (len : Nat) (ss : List ByteArray) : Prop := (0 ≤ c ∧ c ≤ 65535) ∧ (0 ≤ n ∧ n ≤ 65535) ∧ len ≤ 64 ∧ ss.length ≤ 6 ∧ ∀ s ∈ ss, NameOk s
/-- An answer as a value. -/
abbrev ansVal (c n : Int) (x y : Value) : Value := .agg #[.int .i64 c, .int .i64 n, x, y]

set_option maxRecDepth 100000 in
set_option maxHeartbeats 1600000 in
theorem rightAnswer_no (c n : Int) (ao no : Option Addr) (len cap nl ncap : Nat) (w : World) (h : ¬ (0 ≤ c ∧ c ≤ 65535) ∨ ((0 ≤ c ∧ c ≤ 65535) ∧ ¬ (0 ≤ n ∧ n ≤ 65535)) ∨ ((0 ≤ c ∧ c ≤ 65535) ∧ (0 ≤ n ∧ n ≤ 65535) ∧ (64 : Int) < (len : Int)) ∨ ((0 ≤ c ∧ c ≤ 65535) ∧ (0 ≤ n ∧ n ≤ 65535) ∧ (len : Int) ≤ 64 ∧ (6 : Int) < (nl : Int))) :
    Calls Tryd.prog 52 #[ansVal c n (.slice ao len cap) (.slice no nl ncap)] w fun e w' => e = .returned (.bool false) ∧ Same w w' := by
  rcases h with h1 | ⟨h1, h2⟩ | ⟨h1, h2, h3⟩ | ⟨h1, h2, h3, h4⟩
  · go_enter Tryd.func52, Tryd.ntmps52
    go_wp2_with fail
    ((with_reducible refine (within_ok c _).mono ?_); rintro e w1 ⟨rfl, rfl⟩)
    rw [decide_eq_false h1]
    go_wp2
    go_ret
    exact ⟨rfl, (Keeps.refl _ _).alloc _⟩
  · go_enter Tryd.func52, Tryd.ntmps52
    go_wp2_with fail
    ((with_reducible refine (within_ok c _).mono ?_); rintro e w1 ⟨rfl, rfl⟩)
    rw [decide_eq_true h1]
    go_wp2_with fail
    ((with_reducible refine (within_ok n _).mono ?_); rintro e w1 ⟨rfl, rfl⟩)
    rw [decide_eq_false h2]
    go_wp2
    go_ret
    exact ⟨rfl, (Keeps.refl _ _).alloc _⟩
  · go_enter Tryd.func52, Tryd.ntmps52
    go_wp2_with fail
    ((with_reducible refine (within_ok c _).mono ?_); rintro e w1 ⟨rfl, rfl⟩)
    rw [decide_eq_true h1]
    go_wp2_with fail
    ((with_reducible refine (within_ok n _).mono ?_); rintro e w1 ⟨rfl, rfl⟩)
    rw [decide_eq_true h2]
    go_wp2
    go_ret
    exact ⟨rfl, (Keeps.refl _ _).alloc _⟩
  · go_enter Tryd.func52, Tryd.ntmps52
    go_wp2_with fail
    ((with_reducible refine (within_ok c _).mono ?_); rintro e w1 ⟨rfl, rfl⟩)
    rw [decide_eq_true h1]
    go_wp2_with fail
    ((with_reducible refine (within_ok n _).mono ?_); rintro e w1 ⟨rfl, rfl⟩)
    rw [decide_eq_true h2]
    go_wp2
    go_ret
    exact ⟨rfl, (Keeps.refl _ _).alloc _⟩

theorem allOk_snoc {ss : List ByteArray} {j : Nat} (hj : j < ss.length) (h : ∀ s ∈ ss.take j, NameOk s) (h2 : NameOk ss[j]) : ∀ s ∈ ss.take (j + 1), NameOk s := by
  intro s hs
  rw [List.take_succ_eq_append_getElem hj, List.mem_append, List.mem_singleton] at hs
  rcases hs with hs | rfl
  · exact h s hs
  · exact h2
/-- What rightAnswer tells of names. -/
def NamesPost (w : World) (ss : List ByteArray) (e : Ending) (w' : World) : Prop := ∃ b, e = .returned (.bool b) ∧ Same w w' ∧ (b = true ↔ ∀ s ∈ ss, NameOk s)
theorem NamesPost.no {w w' : World} {ss : List ByteArray} {j : Nat} (hj : j < ss.length) (h : ¬ NameOk ss[j]) (k : Same w w') : NamesPost w ss (.returned (.bool false)) w' :=
  ⟨false, rfl, k, ⟨fun e => (by cases e), fun e => absurd (e _ (List.getElem_mem hj)) h⟩⟩

set_option maxRecDepth 100000 in
set_option maxHeartbeats 3200000 in
theorem rightAnswer_names (c n : Int) (ao no : Option Addr) (len cap ncap : Nat) (ss : List ByteArray) (w : World) (hx : Strs w (.slice no ss.length ncap) ss) (h1 : 0 ≤ c ∧ c ≤ 65535) (h2 : 0 ≤ n ∧ n ≤ 65535) (h3 : (len : Int) ≤ 64) (h4 : (ss.length : Int) ≤ 6) :
    Calls Tryd.prog 52 #[ansVal c n (.slice ao len cap) (.slice no ss.length ncap)] w (NamesPost w ss) := by
  have HX := Lib.hid hx
  clear hx
  go_enter Tryd.func52, Tryd.ntmps52
  go_wp2_with fail
  ((with_reducible refine (within_ok c _).mono ?_); rintro e w1 ⟨rfl, rfl⟩)
  rw [decide_eq_true h1]
  go_wp2_with fail
  ((with_reducible refine (within_ok n _).mono ?_); rintro e w1 ⟨rfl, rfl⟩)
  rw [decide_eq_true h2]
  go_wp2
  go_loop [4, 30] (fun _ i => ∃ j : Nat, j ≤ ss.length ∧ i = .int .i64 j ∧ ∀ s ∈ ss.take j, NameOk s) (fun _ i => ss.length - (intOf i).toNat)
  case atStart => exact ⟨0, by omega, rfl, by simp⟩
  case round =>
    obtain ⟨j, hj, rfl, hok⟩ := hrel
    by_cases hlt : j < ss.length
    · have hx1 : Strs (w.alloc (.cells #[.int .i64 c, .int .i64 n, .slice ao len cap, .slice no ss.length ncap] 41 (0, 0))) (.slice no ss.length ncap) ss := HX.out.same ((Keeps.refl _ _).alloc _)
      obtain ⟨a, rfl, hc⟩ := hx1.at hlt
      clear hx1
      have HO := Lib.hid hok
      clear hok
      by_cases q1 : (ss[j].size : Int) < 1
      · go_wp2
        go_ret
        exact NamesPost.no hlt (fun h => by have := h.1; omega) ((Keeps.refl _ _).alloc _)
      · by_cases q2 : (8 : Int) < (ss[j].size : Int)
        · go_wp2
          go_ret
          exact NamesPost.no hlt (fun h => by have := h.2; omega) ((Keeps.refl _ _).alloc _)
        · go_wp2
          go_round
          case rel => exact ⟨j + 1, by omega, by go_num, allOk_snoc hlt HO.out ⟨by omega, by omega⟩⟩
          case measure => simp [intOf]; omega
    · have hjn : ss.take j = ss := List.take_of_length_le (by omega)
      rw [hjn] at hok
      have HO := Lib.hid hok
      clear hjn hok
      go_wp2
      go_ret
      exact ⟨true, rfl, (Keeps.refl _ _).alloc _, ⟨fun _ => HO.out, fun _ => rfl⟩⟩

theorem rightAnswer_ok (c n : Int) (ao no : Option Addr) (len cap ncap : Nat) (ss : List ByteArray) (w : World) (hx : Strs w (.slice no ss.length ncap) ss) :
    Calls Tryd.prog 52 #[ansVal c n (.slice ao len cap) (.slice no ss.length ncap)] w fun e w' => ∃ b, e = .returned (.bool b) ∧ Same w w' ∧ (b = true ↔ AnsRight c n len ss) := by
  by_cases h1 : 0 ≤ c ∧ c ≤ 65535
  case neg => exact (rightAnswer_no c n ao no len cap ss.length ncap w (.inl h1)).mono fun e w' h => ⟨false, h.1, h.2, ⟨fun e => (by cases e), fun e => absurd e.1 h1⟩⟩
  by_cases h2 : 0 ≤ n ∧ n ≤ 65535
  case neg => exact (rightAnswer_no c n ao no len cap ss.length ncap w (.inr (.inl ⟨h1, h2⟩))).mono fun e w' h => ⟨false, h.1, h.2, ⟨fun e => (by cases e), fun e => absurd e.2.1 h2⟩⟩
  by_cases h3 : (len : Int) ≤ 64
  case neg => exact (rightAnswer_no c n ao no len cap ss.length ncap w (.inr (.inr (.inl ⟨h1, h2, by omega⟩)))).mono fun e w' h => ⟨false, h.1, h.2, ⟨fun e => (by cases e), fun e => absurd e.2.2.1 (by omega)⟩⟩
  by_cases h4 : (ss.length : Int) ≤ 6
  case neg => exact (rightAnswer_no c n ao no len cap ss.length ncap w (.inr (.inr (.inr ⟨h1, h2, h3, by omega⟩)))).mono fun e w' h => ⟨false, h.1, h.2, ⟨fun e => (by cases e), fun e => absurd e.2.2.2.1 (by omega)⟩⟩
  exact (rightAnswer_names c n ao no len cap ncap ss w hx h1 h2 h3 h4).mono fun e w' ⟨b, h, k, hb⟩ => ⟨b, h, k, hb.trans ⟨fun e => ⟨h1, h2, by omega, by omega, e⟩, fun e => e.2.2.2.2⟩⟩

end Go.Proofs.YtafgiljgefeefaaDoor
