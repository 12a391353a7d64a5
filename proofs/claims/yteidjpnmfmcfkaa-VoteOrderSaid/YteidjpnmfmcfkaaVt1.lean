/- Votes: what they are, which one is chosen; the small functions. -/
import Derived.Test.YteidjpnmfmcfkaaArr
import Derived.Test.YteidjpnmfmcfkaaOst
import Derived.Test.YteidjpnmfmcfkaaCmp
namespace Go.Proofs.Yteidjpnmfmcfkaa
open Go.RowKit
set_option linter.unusedVariables false

structure VoteX where
  node : Int
  view : Int
  normal : Int
  gen : Int
  commit : Int
  head : List UInt8
def VoteX.cells (v : VoteX) : List Value := .int .i64 v.node :: .int .u64 v.view :: .int .u64 v.normal :: .int .u64 v.gen :: .int .u64 v.commit :: u8s v.head
theorem VoteX.cells_length (v : VoteX) (h : v.head.length = 32) : v.cells.length = 37 := by simp [VoteX.cells, u8s_length, h]
structure VoteX.ok (v : VoteX) : Prop where
  node : (Lit.int .i64 v.node).wf = true
  view : (Lit.int .u64 v.view).wf = true
  commit : (Lit.int .u64 v.commit).wf = true
  head : v.head.length = 32
def icmp (a b : Int) : Int := if a < b then -1 else if b < a then 1 else 0
def orOf : List Int → Int
  | [] => 0
  | x :: r => if x = 0 then orOf r else x
def above (a b : VoteX) : Bool :=
  if a.normal ≠ b.normal then decide (b.normal < a.normal) else if a.gen ≠ b.gen then decide (b.gen < a.gen) else if a.head ≠ b.head then Op.bytesLess b.head a.head else if a.node ≠ b.node then decide (a.node < b.node) else decide (b.commit < a.commit)
theorem icmp_zero {a b : Int} : icmp a b = 0 ↔ a = b := by
  unfold icmp; split
  · constructor <;> intro h <;> omega
  · split <;> constructor <;> intro h <;> omega
theorem icmp_pos {a b : Int} : 0 < icmp a b ↔ b < a := by
  unfold icmp; split
  · constructor <;> intro h <;> omega
  · split <;> constructor <;> intro h <;> omega
theorem better_above (a b : VoteX) : decide (orOf [icmp a.normal b.normal, icmp a.gen b.gen, Lib.compareBytes a.head b.head, icmp b.node a.node, icmp a.commit b.commit] > 0) = above a b := by
  obtain ⟨c1, c2, c3, c4, c5⟩ := cmp_less a.head b.head
  have nn : ∀ {p : Prop}, p → ¬ ¬ p := fun h k => k h
  unfold above
  by_cases h1 : a.normal = b.normal
  · have e1 : icmp a.normal b.normal = 0 := icmp_zero.2 h1
    rw [if_neg (nn h1), orOf, if_pos e1]
    by_cases h2 : a.gen = b.gen
    · have e2 : icmp a.gen b.gen = 0 := icmp_zero.2 h2
      rw [if_neg (nn h2), orOf, if_pos e2]
      by_cases h3 : a.head = b.head
      · have e3 := c2.2 h3
        rw [if_neg (nn h3), orOf, if_pos e3]
        by_cases h4 : a.node = b.node
        · have e4 : icmp b.node a.node = 0 := icmp_zero.2 h4.symm
          rw [if_neg (nn h4), orOf, if_pos e4, orOf]
          by_cases h5 : icmp a.commit b.commit = 0
          · have := icmp_zero.1 h5
            rw [if_pos h5, orOf, this]
            simp
          · rw [if_neg h5]
            exact decide_eq_decide.2 icmp_pos
        · have e4 : ¬ icmp b.node a.node = 0 := fun e => h4 (icmp_zero.1 e).symm
          rw [if_pos h4, orOf, if_neg e4]
          exact decide_eq_decide.2 icmp_pos
      · have e3 : ¬ Lib.compareBytes a.head b.head = 0 := fun e => h3 (c2.1 e)
        rw [if_pos h3, orOf, if_neg e3]
        by_cases h : Op.bytesLess b.head a.head = true
        · rw [h]; exact decide_eq_true (c3.2 h)
        · rw [Bool.eq_false_iff.2 h]; exact decide_eq_false (fun e => h (c3.1 e))
    · have e2 : ¬ icmp a.gen b.gen = 0 := fun e => h2 (icmp_zero.1 e)
      rw [if_pos h2, orOf, if_neg e2]
      exact decide_eq_decide.2 icmp_pos
  · have e1 : ¬ icmp a.normal b.normal = 0 := fun e => h1 (icmp_zero.1 e)
    rw [if_pos h1, orOf, if_neg e1]
    exact decide_eq_decide.2 icmp_pos

set_option maxRecDepth 100000 in
set_option maxHeartbeats 800000 in
theorem cmpInt_any (a b : Int) (w : World) : Calls Try.prog 20 #[.int .i64 a, .int .i64 b] w fun e w' => e = .returned (.int .i64 (icmp a b)) ∧ w' = w := by
  obtain ⟨r, hr⟩ : ∃ r, icmp a b = r := ⟨_, rfl⟩
  have HR := Lib.hid hr
  by_cases h1 : a < b
  · have hr1 : icmp a b = -1 := by unfold icmp; rw [if_pos h1]
    have HR1 := Lib.hid hr1
    clear hr hr1
    rw [HR.out]
    go_enter Try.func20, Try.ntmps20
    go_wp2
    go_ret
    exact ⟨by rw [← HR.out, HR1.out]; rfl, rfl⟩
  · by_cases h2 : b < a
    · have hr1 : icmp a b = 1 := by unfold icmp; rw [if_neg h1, if_pos h2]
      have HR1 := Lib.hid hr1
      clear hr hr1
      rw [HR.out]
      go_enter Try.func20, Try.ntmps20
      go_wp2
      go_ret
      exact ⟨by rw [← HR.out, HR1.out]; rfl, rfl⟩
    · have hr1 : icmp a b = 0 := by unfold icmp; rw [if_neg h1, if_neg h2]
      have HR1 := Lib.hid hr1
      clear hr hr1
      rw [HR.out]
      go_enter Try.func20, Try.ntmps20
      go_wp2
      go_ret
      exact ⟨by rw [← HR.out, HR1.out]; rfl, rfl⟩
set_option maxRecDepth 100000 in
set_option maxHeartbeats 800000 in
theorem cmpU64_any (a b : Int) (w : World) : Calls Try.prog 28 #[.int .u64 a, .int .u64 b] w fun e w' => e = .returned (.int .i64 (icmp a b)) ∧ w' = w := by
  obtain ⟨r, hr⟩ : ∃ r, icmp a b = r := ⟨_, rfl⟩
  have HR := Lib.hid hr
  by_cases h1 : a < b
  · have hr1 : icmp a b = -1 := by unfold icmp; rw [if_pos h1]
    have HR1 := Lib.hid hr1
    clear hr hr1
    rw [HR.out]
    go_enter Try.func28, Try.ntmps28
    go_wp2
    go_ret
    exact ⟨by rw [← HR.out, HR1.out]; rfl, rfl⟩
  · by_cases h2 : b < a
    · have hr1 : icmp a b = 1 := by unfold icmp; rw [if_neg h1, if_pos h2]
      have HR1 := Lib.hid hr1
      clear hr hr1
      rw [HR.out]
      go_enter Try.func28, Try.ntmps28
      go_wp2
      go_ret
      exact ⟨by rw [← HR.out, HR1.out]; rfl, rfl⟩
    · have hr1 : icmp a b = 0 := by unfold icmp; rw [if_neg h1, if_neg h2]
      have HR1 := Lib.hid hr1
      clear hr hr1
      rw [HR.out]
      go_enter Try.func28, Try.ntmps28
      go_wp2
      go_ret
      exact ⟨by rw [← HR.out, HR1.out]; rfl, rfl⟩

theorem orOf_drop (xs : List Int) : ∀ (j : Nat), (∀ q, q < j → xs[q]? = some 0) → orOf xs = orOf (xs.drop j)
  | 0, _ => by simp
  | j + 1, h => by
    rw [orOf_drop xs j (fun q hq => h q (by omega))]
    have h1 := h j (by omega)
    obtain ⟨hl, he⟩ := List.getElem?_eq_some_iff.1 h1
    rw [List.drop_eq_getElem_cons hl, he]
    simp [orOf]

set_option maxRecDepth 100000 in
set_option maxHeartbeats 1600000 in
theorem or_any (g n c : Nat) (xs : List Int) (w : World) (h : w.rangeAt g 0 (xs.map (fun x => .int .i64 x))) (hn : xs.length = n) (hl : n ≤ 1000) :
    Calls Try.prog 27 #[.slice (some ⟨g, 0, none⟩) n c] w fun e w' => e = .returned (.int .i64 (orOf xs)) ∧ w' = w := by
  have HX := Lib.hid h
  have HN := Lib.hid hn
  obtain ⟨r, hr⟩ : ∃ r, orOf xs = r := ⟨_, rfl⟩
  have HR := Lib.hid hr
  rw [hr]
  clear h hn hr
  go_enter Try.func27, Try.ntmps27
  go_wp2
  go_loopw [8] (fun i wr => wr = w ∧ ∃ j : Nat, j ≤ n ∧ i = .int .i64 j ∧ ∀ q, q < j → xs[q]? = some 0) (fun i _ => n - (intOf i).toNat)
  case atStart => exact ⟨rfl, 0, by omega, rfl, fun q hq => by omega⟩
  case round =>
    obtain ⟨rfl, j, hj, rfl, hz⟩ := hrel
    have HZ := Lib.hid hz
    clear hz
    by_cases hlt : j < n
    · obtain ⟨x, hx⟩ : ∃ x, xs[j]? = some x := ⟨_, List.getElem?_eq_getElem (by rw [HN.out]; exact hlt)⟩
      have hc := HX.out j (.int .i64 x) (by simp [hx])
      rw [Nat.zero_add] at hc
      have HXJ := Lib.hid hx
      have hjn : (j : Int) < (n : Int) := by omega
      clear hx
      by_cases hx0 : x = 0
      · subst hx0
        go_wp2
        go_roundw
        case rel => exact ⟨by trivial, j + 1, by omega, by go_num, fun q hq => by
          by_cases e : q = j
          · subst e; exact HXJ.out
          · exact HZ.out q (by omega)⟩
        case measure => simp [intOf]; omega
      · have hx1 : (x == 0) = false := by simpa using hx0
        go_wp2
        go_ret
        refine ⟨?_, rfl⟩
        have h1 := orOf_drop xs j HZ.out
        obtain ⟨hl, he⟩ := List.getElem?_eq_some_iff.1 HXJ.out
        rw [List.drop_eq_getElem_cons hl, he] at h1
        rw [← HR.out, h1]
        simp [orOf, hx0]
    · obtain rfl : j = n := by omega
      have hjn : ¬ (j : Int) < (j : Int) := by omega
      go_wp2
      go_ret
      refine ⟨?_, rfl⟩
      have h1 := orOf_drop xs j HZ.out
      rw [List.drop_of_length_le (by rw [HN.out]; exact Nat.le_refl _)] at h1
      rw [← HR.out, h1]
      rfl
end Go.Proofs.Yteidjpnmfmcfkaa
