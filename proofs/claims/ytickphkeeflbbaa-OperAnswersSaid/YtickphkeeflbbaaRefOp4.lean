/- The document's own eye: one contract for each call, whatever is there. -/
import Derived.Test.YtickphkeeflbbaaRefOp3
import Derived.Test.YtickphkeeflbbaaREye2
namespace Go.Proofs.Ytickphkeeflbbaa
open Go.RowKit
set_option linter.unusedVariables false

theorem reye_num (B : Nat) (ao : Option Addr) (cap : Nat) (bs : List UInt8) (i n : Nat) (N : Int) (w : World) (h : REye w B ao cap bs i) (hl : bs.length ≤ 140737488351232) (h1 : 1 ≤ n) (h8 : n ≤ 8) (hN : N = (n : Int)) :
    Calls Try.prog 34 #[.pointer (some ⟨B, 0, none⟩), .int .i64 N] w fun e w' => ∃ er, e = .returned (.tuple #[.int .u64 (numAt bs i n : Nat), .int .i64 er]) ∧
      REye w' B ao cap bs (numTo bs i n) ∧ Keeps (fun k => k = B) w w' ∧ ((er = 0 ∧ i + n ≤ bs.length) ∨ (er = 20 ∧ ¬ i + n ≤ bs.length)) := by
  subst hN
  by_cases q : i + n ≤ bs.length
  · have e1 : numAt bs i n = beVal ((bs.drop i).take n) := by unfold numAt; rw [if_pos q]
    have e2 : numTo bs i n = i + n := by unfold numTo; rw [if_pos q]
    rw [e1, e2]
    exact (reye_uint_ok B ao cap bs i n w h hl q h1 h8).mono fun e w' ⟨he, hy, hk⟩ => ⟨0, he, hy, hk, .inl ⟨rfl, q⟩⟩
  · have e1 : numAt bs i n = 0 := by unfold numAt; rw [if_neg q]
    have e2 : numTo bs i n = i := by unfold numTo; rw [if_neg q]
    rw [e1, e2]
    exact (reye_uint_short B ao cap bs i n w h hl (by omega) (by omega) (by have := h.le; omega)).mono fun e w' ⟨he, hk⟩ => ⟨20, he, h.same hk, (Keeps.refl _ _).trans hk (fun _ _ e => e.elim), .inr ⟨rfl, q⟩⟩
theorem reye_txt (B : Nat) (ao : Option Addr) (cap : Nat) (bs : List UInt8) (i : Nat) (w : World) (h : REye w B ao cap bs i) (hl : bs.length ≤ 140737488351232) :
    Calls Try.prog 35 #[.pointer (some ⟨B, 0, none⟩)] w fun e w' => ∃ v er, e = .returned (.tuple #[v, .int .i64 er]) ∧
      Reads w' v (txtAt bs i) ∧ (∀ a n c, v = .slice (some a) n c → txtAt bs i ≠ [] → w.heap.size ≤ a.block) ∧ REye w' B ao cap bs (txtTo bs i) ∧ Keeps (fun k => k = B) w w' ∧ ((er = 0 ∧ TxtOk bs i) ∨ (er = 20 ∧ ¬ TxtOk bs i)) := by
  by_cases q : TxtOk bs i
  · obtain ⟨m, hm⟩ : ∃ m, beVal ((bs.drop i).take 2) = m := ⟨_, rfl⟩
    have q2 := q.2
    rw [hm] at q2
    have e1 : txtAt bs i = (bs.drop (i + 2)).take m := by unfold txtAt; rw [if_pos q, hm]
    have hlen : (txtAt bs i).length = m := by rw [(txtAt_len q).1, hm]
    have e2 : txtTo bs i = i + 2 + m := by unfold txtTo; rw [if_pos q, hlen]
    rw [e2]
    refine (reye_text_ok B ao cap bs i m w h hl q2 hm).mono fun e w' ⟨g, c, he, ho, hy, hk⟩ => ⟨_, 0, he, ?_, ?_, hy, hk, .inl ⟨rfl, q⟩⟩
    · rw [← e1] at ho
      exact Reads.of_own ho hlen
    · intro a n c' e _
      simp only [Value.slice.injEq, Option.some.injEq] at e
      have := (ho.lt g rfl).1
      rw [← e.1]; exact this
  · have e1 : txtAt bs i = [] := by unfold txtAt; rw [if_neg q]
    have e2 : txtTo bs i = i := by unfold txtTo; rw [if_neg q]
    rw [e1, e2]
    refine (reye_text_fail B ao cap bs i w h hl (by unfold TxtOk at q; omega)).mono fun e w' ⟨g, he, hk⟩ => ⟨_, 20, he, Reads.nil _ _ _, fun _ _ _ _ hh => absurd rfl hh, h.same hk, (Keeps.refl _ _).trans hk (fun _ _ e => e.elim), .inr ⟨rfl, q⟩⟩
theorem reye_fin (B : Nat) (ao : Option Addr) (cap : Nat) (bs : List UInt8) (i : Nat) (w : World) (h : REye w B ao cap bs i) (hl : bs.length ≤ 140737488351232) :
    Calls Try.prog 36 #[.pointer (some ⟨B, 0, none⟩)] w fun e w' => e = .returned (.int .i64 (if i = bs.length then 0 else 21)) ∧ Same w w' := by
  by_cases q : i = bs.length
  · rw [if_pos q]
    subst q
    exact (reye_end_ok B ao cap bs w h hl).mono fun e w' ⟨he, n, hw⟩ => ⟨he, by subst hw; exact (Keeps.refl _ _).drewN n⟩
  · rw [if_neg q]
    exact (reye_end_tail B ao cap bs i w h (by have := h.le; omega)).mono fun e w' ⟨he, n, hw⟩ => ⟨he, by subst hw; exact (Keeps.refl _ _).drewN n⟩
/-- A text that was read stays, whatever the eye reads. -/
theorem Reads.past {w w' : World} {B : Nat} {v : Value} {b : List UInt8} (h : Reads w v b) (hb : ∀ a n c, v = .slice (some a) n c → b ≠ [] → a.block ≠ B) (k : Keeps (fun k => k = B) w w') : Reads w' v b := by
  obtain ⟨ao, c, e, h1, h2⟩ := h
  refine ⟨ao, c, e, ?_, h2⟩
  by_cases hn : b = []
  · subst hn; rw [e]; exact Bytes.nil _ _ _
  · exact h1.keeps k (fun a n c e2 e3 => hb a n c e2 hn e3)
end Go.Proofs.Ytickphkeeflbbaa
