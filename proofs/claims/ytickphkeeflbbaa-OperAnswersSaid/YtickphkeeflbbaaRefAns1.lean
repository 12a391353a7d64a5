/- The document's own answers on answers: whether they are right. -/
import Derived.Test.YtickphkeeflbbaaAns2
import Derived.Test.YtickphkeeflbbaaRefOp3
namespace Go.Proofs.Ytickphkeeflbbaa
open Go.RowKit
set_option linter.unusedVariables false

set_option maxRecDepth 100000 in
set_option maxHeartbeats 1600000 in
theorem refAns_no1 (c n : Int) (ao no : Option Addr) (len cap nl ncap : Nat) (w : World)  (m : c < 0) :
    Calls Try.prog 38 #[ansVal c n (.slice ao len cap) (.slice no nl ncap)] w fun e w' => e = .returned (.bool false) ∧ Same w w' := by
  go_enter Try.func38, Try.ntmps38
  go_wp2
  go_ret
  exact ⟨rfl, (Keeps.refl _ _).alloc _⟩

set_option maxRecDepth 100000 in
set_option maxHeartbeats 1600000 in
theorem refAns_no2 (c n : Int) (ao no : Option Addr) (len cap nl ncap : Nat) (w : World) (q1 : (0 : Int) ≤ c) (m : (65535 : Int) < c) :
    Calls Try.prog 38 #[ansVal c n (.slice ao len cap) (.slice no nl ncap)] w fun e w' => e = .returned (.bool false) ∧ Same w w' := by
  go_enter Try.func38, Try.ntmps38
  go_wp2
  go_ret
  exact ⟨rfl, (Keeps.refl _ _).alloc _⟩

set_option maxRecDepth 100000 in
set_option maxHeartbeats 1600000 in
theorem refAns_no3 (c n : Int) (ao no : Option Addr) (len cap nl ncap : Nat) (w : World) (q1 : (0 : Int) ≤ c) (q2 : c ≤ 65535) (m : n < 0) :
    Calls Try.prog 38 #[ansVal c n (.slice ao len cap) (.slice no nl ncap)] w fun e w' => e = .returned (.bool false) ∧ Same w w' := by
  go_enter Try.func38, Try.ntmps38
  go_wp2
  go_ret
  exact ⟨rfl, (Keeps.refl _ _).alloc _⟩

set_option maxRecDepth 100000 in
set_option maxHeartbeats 1600000 in
theorem refAns_no4 (c n : Int) (ao no : Option Addr) (len cap nl ncap : Nat) (w : World) (q1 : (0 : Int) ≤ c) (q2 : c ≤ 65535) (q3 : (0 : Int) ≤ n) (m : (65535 : Int) < n) :
    Calls Try.prog 38 #[ansVal c n (.slice ao len cap) (.slice no nl ncap)] w fun e w' => e = .returned (.bool false) ∧ Same w w' := by
  go_enter Try.func38, Try.ntmps38
  go_wp2
  go_ret
  exact ⟨rfl, (Keeps.refl _ _).alloc _⟩

set_option maxRecDepth 100000 in
set_option maxHeartbeats 1600000 in
theorem refAns_no5 (c n : Int) (ao no : Option Addr) (len cap nl ncap : Nat) (w : World) (q1 : (0 : Int) ≤ c) (q2 : c ≤ 65535) (q3 : (0 : Int) ≤ n) (q4 : n ≤ 65535) (m : (64 : Int) < (len : Int)) :
    Calls Try.prog 38 #[ansVal c n (.slice ao len cap) (.slice no nl ncap)] w fun e w' => e = .returned (.bool false) ∧ Same w w' := by
  go_enter Try.func38, Try.ntmps38
  go_wp2
  go_ret
  exact ⟨rfl, (Keeps.refl _ _).alloc _⟩

set_option maxRecDepth 100000 in
set_option maxHeartbeats 1600000 in
theorem refAns_no6 (c n : Int) (ao no : Option Addr) (len cap nl ncap : Nat) (w : World) (q1 : (0 : Int) ≤ c) (q2 : c ≤ 65535) (q3 : (0 : Int) ≤ n) (q4 : n ≤ 65535) (q5 : (len : Int) ≤ 64) (m : (6 : Int) < (nl : Int)) :
    Calls Try.prog 38 #[ansVal c n (.slice ao len cap) (.slice no nl ncap)] w fun e w' => e = .returned (.bool false) ∧ Same w w' := by
  go_enter Try.func38, Try.ntmps38
  go_wp2
  go_ret
  exact ⟨rfl, (Keeps.refl _ _).alloc _⟩

set_option maxRecDepth 100000 in
set_option maxHeartbeats 3200000 in
theorem refAns_names (c n : Int) (ao no : Option Addr) (len cap ncap : Nat) (ss : List ByteArray) (w : World) (hx : Strs w (.slice no ss.length ncap) ss) (q1 : (0 : Int) ≤ c) (q2 : c ≤ 65535) (q3 : (0 : Int) ≤ n) (q4 : n ≤ 65535) (q5 : (len : Int) ≤ 64) (q6 : (ss.length : Int) ≤ 6) :
    Calls Try.prog 38 #[ansVal c n (.slice ao len cap) (.slice no ss.length ncap)] w (NamesPost w ss) := by
  have HX := Lib.hid hx
  clear hx
  go_enter Try.func38, Try.ntmps38
  go_wp2
  go_loop [3] (fun i => ∃ j : Nat, j ≤ ss.length ∧ i = .int .i64 j ∧ ∀ s ∈ ss.take j, NameOk s) (fun i => ss.length - (intOf i).toNat)
  case atStart => exact ⟨0, by omega, rfl, by simp⟩
  case round =>
    obtain ⟨j, hj, rfl, hok⟩ := hrel
    by_cases hlt : j < ss.length
    · have hlt2 : (j : Int) < (ss.length : Int) := by omega
      have hx1 : Strs (w.alloc (.cells #[.int .i64 c, .int .i64 n, .slice ao len cap, .slice no ss.length ncap] 41 (0, 0))) (.slice no ss.length ncap) ss := HX.out.same ((Keeps.refl _ _).alloc _)
      obtain ⟨a, rfl, hc⟩ := hx1.at hlt
      clear hx1
      have HO := Lib.hid hok
      clear hok
      by_cases z1 : (ss[j].size : Int) < 1
      · go_wp2
        go_ret
        exact NamesPost.no hlt (fun h => by have := h.1; omega) ((Keeps.refl _ _).alloc _)
      · by_cases z2 : (8 : Int) < (ss[j].size : Int)
        · go_wp2
          go_ret
          exact NamesPost.no hlt (fun h => by have := h.2; omega) ((Keeps.refl _ _).alloc _)
        · go_wp2
          go_round
          case rel => exact ⟨j + 1, by omega, by go_num, allOk_snoc hlt HO.out ⟨by omega, by omega⟩⟩
          case measure => simp [intOf]; omega
    · have hlt2 : ¬ (j : Int) < (ss.length : Int) := by omega
      have hjn : ss.take j = ss := List.take_of_length_le (by omega)
      rw [hjn] at hok
      have HO := Lib.hid hok
      clear hjn hok
      go_wp2
      go_ret
      exact ⟨true, rfl, (Keeps.refl _ _).alloc _, ⟨fun _ => HO.out, fun _ => rfl⟩⟩

theorem refRightAnswer_ok (c n : Int) (ao no : Option Addr) (len cap ncap : Nat) (ss : List ByteArray) (w : World) (hx : Strs w (.slice no ss.length ncap) ss) :
    Calls Try.prog 38 #[ansVal c n (.slice ao len cap) (.slice no ss.length ncap)] w fun e w' => ∃ b, e = .returned (.bool b) ∧ Same w w' ∧ (b = true ↔ AnsRight c n len ss) := by
  by_cases q1 : (0 : Int) ≤ c
  case neg => exact (refAns_no1 c n ao no len cap ss.length ncap w  (by omega)).mono fun e w' h => ⟨false, h.1, h.2, ⟨fun e => (by cases e), fun e => absurd e (fun h => by obtain ⟨⟨a1, a2⟩, ⟨a3, a4⟩, a5, a6, _⟩ := h; omega)⟩⟩
  by_cases q2 : c ≤ 65535
  case neg => exact (refAns_no2 c n ao no len cap ss.length ncap w q1 (by omega)).mono fun e w' h => ⟨false, h.1, h.2, ⟨fun e => (by cases e), fun e => absurd e (fun h => by obtain ⟨⟨a1, a2⟩, ⟨a3, a4⟩, a5, a6, _⟩ := h; omega)⟩⟩
  by_cases q3 : (0 : Int) ≤ n
  case neg => exact (refAns_no3 c n ao no len cap ss.length ncap w q1 q2 (by omega)).mono fun e w' h => ⟨false, h.1, h.2, ⟨fun e => (by cases e), fun e => absurd e (fun h => by obtain ⟨⟨a1, a2⟩, ⟨a3, a4⟩, a5, a6, _⟩ := h; omega)⟩⟩
  by_cases q4 : n ≤ 65535
  case neg => exact (refAns_no4 c n ao no len cap ss.length ncap w q1 q2 q3 (by omega)).mono fun e w' h => ⟨false, h.1, h.2, ⟨fun e => (by cases e), fun e => absurd e (fun h => by obtain ⟨⟨a1, a2⟩, ⟨a3, a4⟩, a5, a6, _⟩ := h; omega)⟩⟩
  by_cases q5 : (len : Int) ≤ 64
  case neg => exact (refAns_no5 c n ao no len cap ss.length ncap w q1 q2 q3 q4 (by omega)).mono fun e w' h => ⟨false, h.1, h.2, ⟨fun e => (by cases e), fun e => absurd e (fun h => by obtain ⟨⟨a1, a2⟩, ⟨a3, a4⟩, a5, a6, _⟩ := h; omega)⟩⟩
  by_cases q6 : (ss.length : Int) ≤ 6
  case neg => exact (refAns_no6 c n ao no len cap ss.length ncap w q1 q2 q3 q4 q5 (by omega)).mono fun e w' h => ⟨false, h.1, h.2, ⟨fun e => (by cases e), fun e => absurd e (fun h => by obtain ⟨⟨a1, a2⟩, ⟨a3, a4⟩, a5, a6, _⟩ := h; omega)⟩⟩
  exact (refAns_names c n ao no len cap ncap ss w hx q1 q2 q3 q4 q5 q6).mono fun e w' ⟨b, h, k, hb⟩ => ⟨b, h, k, hb.trans ⟨fun e => ⟨⟨q1, q2⟩, ⟨q3, q4⟩, by omega, by omega, e⟩, fun e => e.2.2.2.2⟩⟩
end Go.Proofs.Ytickphkeeflbbaa
