/- The digest out of the padded text, chunk by chunk. -/
import Derived.Test.YtiddnhnfpggomaaDoorSha16
namespace Go.Proofs.YtiddnhnfpggomaaDoor
open Go.RowKit
set_option linter.unusedVariables false

/-- One whole chunk, fed where nothing waits. -/
theorem feed_chunk (h : HS) (c : List UInt8) (hl : h.ch.length = 64) (h0 : h.n % 64 = 0) (hc : c.length = 64) : feed h c = ⟨mixed h.s c, c, h.n + 64⟩ := by
  have hne : c ≠ [] := by intro e; rw [e] at hc; simp at hc
  have := feed_run c h hl hne (by omega)
  rw [this]
  have e1 : h.ch.take (h.n % 64) = [] := by rw [h0]; rfl
  have e2 : h.ch.drop (h.n % 64 + c.length) = [] := List.drop_of_length_le (by omega)
  rw [e1, e2, if_pos (by omega)]
  simp [hc]

theorem tail_low (ch : List UInt8) (r t : Nat) (hl : ch.length = 64) (hr : r < 56) : tailCh (endCh ch r) t 8 = ch.take r ++ ([128] ++ List.replicate (55 - r) 0 ++ be t 8) := by
  unfold tailCh
  rw [show 8 - 8 = 0 from rfl, List.drop_zero, show 64 - 8 = 56 from rfl]
  have e : (endCh ch r).take 56 = ch.take r ++ ([128] ++ List.replicate (55 - r) 0) := by
    unfold endCh
    rw [List.append_assoc, List.take_append, List.take_of_length_le (by rw [List.length_take]; omega), List.length_take, Nat.min_eq_left (by omega)]
    congr 1
    rw [List.take_append]
    simp only [List.length_cons, List.length_nil, Nat.zero_add]
    rw [List.take_of_length_le (by simp; omega), List.take_replicate, show min (56 - r - 1) (63 - r) = 55 - r from by omega]
  rw [e, List.append_assoc]
theorem tail_high (t : Nat) : tailCh (List.replicate 64 0) t 8 = List.replicate 56 0 ++ be t 8 := by
  unfold tailCh
  rw [show 8 - 8 = 0 from rfl, List.drop_zero, show 64 - 8 = 56 from rfl, List.take_replicate]
  rfl

/-- The padding, fed, ends as 'finish' does. -/
theorem feed_pad (h : HS) (hl : h.ch.length = 64) : (feed h ([128] ++ List.replicate (zn h.n) 0 ++ be (h.n * 8) 8)).s = (finish h).s := by
  have hr := Nat.mod_lt h.n (show 0 < 64 by omega)
  unfold finish fin1
  by_cases h56 : 56 ≤ h.n % 64
  · rw [if_pos h56]
    simp only
    have hz : zn h.n = (63 - h.n % 64) + 56 := by unfold zn; omega
    have e : [128] ++ List.replicate (zn h.n) 0 ++ be (h.n * 8) 8 = ([128] ++ List.replicate (63 - h.n % 64) (0 : UInt8)) ++ (List.replicate 56 0 ++ be (h.n * 8) 8) := by
      rw [hz, ← List.replicate_append_replicate]
      simp only [List.append_assoc]
    have h1 := feed_run ([128] ++ List.replicate (63 - h.n % 64) (0 : UInt8)) h hl (by simp) (by simp; omega)
    have hlen : ([128] ++ List.replicate (63 - h.n % 64) (0 : UInt8)).length = 64 - h.n % 64 := by simp; omega
    rw [hlen, if_pos (by omega), List.drop_of_length_le (by omega), List.append_nil, ← List.append_assoc] at h1
    rw [e, feed_append, h1]
    have h2 := feed_chunk ⟨mixed h.s (h.ch.take (h.n % 64) ++ [128] ++ List.replicate (63 - h.n % 64) 0), h.ch.take (h.n % 64) ++ [128] ++ List.replicate (63 - h.n % 64) 0, h.n + (64 - h.n % 64)⟩ (List.replicate 56 0 ++ be (h.n * 8) 8) (by simp; omega) (by simp only; omega) (by rw [List.length_append, be_length]; simp)
    rw [h2, tail_high]
    rfl
  · rw [if_neg h56]
    simp only
    have hz : zn h.n = 55 - h.n % 64 := by unfold zn; omega
    have h1 := feed_run ([128] ++ List.replicate (zn h.n) 0 ++ be (h.n * 8) 8) h hl (by simp) (by simp [be_length]; omega)
    have hlen : ([128] ++ List.replicate (zn h.n) (0 : UInt8) ++ be (h.n * 8) 8).length = 64 - h.n % 64 := by simp [be_length]; omega
    rw [hlen, if_pos (by omega), List.drop_of_length_le (by omega), List.append_nil] at h1
    rw [h1, tail_low _ _ _ hl (by omega), hz]

theorem feed_padOf (bs : List UInt8) : (feed hs0 (padOf bs)).s = (finish (feed hs0 bs)).s := by
  have hl := (feed_len hs0 bs).1
  have hn : (feed hs0 bs).n = bs.length := by rw [(feed_len hs0 bs).2]; simp [hs0]
  have := feed_pad (feed hs0 bs) (by rw [hl]; simp [hs0])
  rw [hn] at this
  rw [← this, ← feed_append]
  unfold padOf padZ
  simp only [List.append_assoc]

/-- The state before a chunk, and behind it. -/
def stAt (p : List UInt8) (k : Nat) : St := (feed hs0 (p.take (64 * k))).s
theorem stAt_zero (p : List UInt8) : stAt p 0 = st0 := rfl
theorem stAt_succ (p : List UInt8) (k : Nat) (h : 64 * (k + 1) ≤ p.length) : stAt p (k + 1) = mixed (stAt p k) ((p.drop (64 * k)).take 64) := by
  unfold stAt
  have hn : (feed hs0 (p.take (64 * k))).n = 64 * k := by rw [(feed_len hs0 _).2, List.length_take]; simp [hs0]; omega
  rw [show 64 * (k + 1) = 64 * k + 64 from by omega, List.take_add, feed_append, feed_chunk _ _ (by rw [(feed_len hs0 _).1]; simp [hs0]) (by rw [hn]; omega) (by rw [List.length_take, List.length_drop]; omega)]
theorem pad_chunks (bs : List UInt8) : ∃ m, (padOf bs).length = 64 * m ∧ 0 < m := by
  rw [padOf_length]
  have : (bs.length + 1 + zn bs.length) % 64 = 56 := (zn_mod bs.length _ (Nat.le_refl _)).2 rfl
  exact ⟨(bs.length + 1 + zn bs.length + 8) / 64, by omega, by omega⟩
theorem stAt_end (bs : List UInt8) (m : Nat) (h : (padOf bs).length = 64 * m) : stAt (padOf bs) m = (finish (feed hs0 bs)).s := by
  unfold stAt
  rw [List.take_of_length_le (by omega), feed_padOf]

end Go.Proofs.YtiddnhnfpggomaaDoor
