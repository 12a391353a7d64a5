/- What an eye gives of any bytes, one thing behind the other. No program is named here. -/
import Derived.Test.YtafgiljgefeefaaDoorBytes
import Derived.Test.YtafgiljgefeefaaDoorEye4
namespace Go.Proofs.YtafgiljgefeefaaDoor
set_option linter.unusedVariables false

theorem beVal_be' (n s : Nat) (h : n < 256 ^ s) : beVal (be n s) = n := by
  have : ∀ s, beVal (be n s) = n % 256 ^ s := by
    intro s
    induction s with
    | zero => simp [be, beVal]; omega
    | succ s ih =>
      rw [be_succ, beVal_cons, be_length, ih, byte_toNat, split_at, Nat.mul_comm (256 ^ s), Nat.add_comm]
  rw [this, Nat.mod_eq_of_lt h]
theorem be_beVal' (l : List UInt8) : be (beVal l) l.length = l := by
  have h := beVal_lt l
  generalize hn : beVal l = n at h
  induction l generalizing n with
  | nil => simp [be]
  | cons b l ih =>
    rw [beVal_cons] at hn
    have hl := beVal_lt l
    rw [List.length_cons, be_succ]
    have hp : 0 < 256 ^ l.length := Nat.pow_pos (by omega)
    have h1 : n / 256 ^ l.length = b.toNat := by
      rw [← hn, Nat.mul_comm, Nat.mul_add_div hp, Nat.div_eq_of_lt hl, Nat.add_zero]
    rw [h1]
    have h2 : be n l.length = be (beVal l) l.length := by
      rw [be_inj_mod, ← hn, Nat.mul_comm, Nat.mul_add_mod]
    rw [h2, ih (beVal l) rfl hl]
    simp

def numAt (bs : List UInt8) (i n : Nat) : Nat := if i + n ≤ bs.length then beVal ((bs.drop i).take n) else 0
def numTo (bs : List UInt8) (i n : Nat) : Nat := if i + n ≤ bs.length then i + n else i
def TxtOk (bs : List UInt8) (i : Nat) : Prop := i + 2 ≤ bs.length ∧ i + 2 + beVal ((bs.drop i).take 2) ≤ bs.length
instance (bs : List UInt8) (i : Nat) : Decidable (TxtOk bs i) := by unfold TxtOk; infer_instance
def txtAt (bs : List UInt8) (i : Nat) : List UInt8 := if TxtOk bs i then (bs.drop (i + 2)).take (beVal ((bs.drop i).take 2)) else []
def txtTo (bs : List UInt8) (i : Nat) : Nat := if TxtOk bs i then i + 2 + (txtAt bs i).length else i

theorem numAt_lt (bs : List UInt8) (i n : Nat) : numAt bs i n < 256 ^ n := by
  unfold numAt
  split
  · have := beVal_lt ((bs.drop i).take n)
    rw [show ((bs.drop i).take n).length = n from by simp; omega] at this
    exact this
  · exact Nat.pow_pos (by omega)
theorem txtAt_len {bs : List UInt8} {i : Nat} (h : TxtOk bs i) : (txtAt bs i).length = beVal ((bs.drop i).take 2) ∧ i + 2 + (txtAt bs i).length ≤ bs.length := by
  have h2 : (txtAt bs i).length = beVal ((bs.drop i).take 2) := by
    unfold txtAt
    rw [if_pos h]
    have := h.2
    simp; omega
  exact ⟨h2, by rw [h2]; exact h.2⟩
theorem txtAt_le (bs : List UInt8) (i : Nat) : (txtAt bs i).length ≤ bs.length := by
  by_cases h : TxtOk bs i
  · have := (txtAt_len h).2; omega
  · unfold txtAt; rw [if_neg h]; simp
/-- What stands there is what was read. -/
theorem num_split {bs : List UInt8} {i n : Nat} (h : i + n ≤ bs.length) : bs.drop i = be (numAt bs i n) n ++ bs.drop (i + n) := by
  have hl : ((bs.drop i).take n).length = n := by simp; omega
  have h1 : be (numAt bs i n) n = (bs.drop i).take n := by
    unfold numAt
    rw [if_pos h]
    have := be_beVal' ((bs.drop i).take n)
    rwa [hl] at this
  rw [h1, ← List.drop_drop]
  exact (List.take_append_drop n (bs.drop i)).symm
theorem txt_split {bs : List UInt8} {i : Nat} (h : TxtOk bs i) : bs.drop i = be (txtAt bs i).length 2 ++ (txtAt bs i ++ bs.drop (i + 2 + (txtAt bs i).length)) := by
  have hl := txtAt_len h
  have h1 := num_split h.1
  have h2 : numAt bs i 2 = (txtAt bs i).length := by unfold numAt; rw [if_pos h.1, hl.1]
  rw [h2] at h1
  have h3 : txtAt bs i = (bs.drop (i + 2)).take (txtAt bs i).length := by
    rw [hl.1]; unfold txtAt; rw [if_pos h]
  have h4 := List.take_append_drop (txtAt bs i).length (bs.drop (i + 2))
  rw [← h3, List.drop_drop] at h4
  rw [h1, ← h4]
/-- What was written is read. -/
theorem num_of {bs : List UInt8} {i n v : Nat} {r : List UInt8} (h : bs.drop i = be v n ++ r) (hn : 1 ≤ n) (hv : v < 256 ^ n) : numAt bs i n = v ∧ numTo bs i n = i + n ∧ bs.drop (i + n) = r ∧ i + n ≤ bs.length := by
  have hl : i + n ≤ bs.length := by
    have := congrArg List.length h
    simp [be_length] at this
    omega
  have ht : (bs.drop i).take n = be v n := by rw [h, List.take_left' (be_length v n)]
  refine ⟨?_, ?_, ?_, hl⟩
  · unfold numAt; rw [if_pos hl, ht, beVal_be' v n hv]
  · unfold numTo; rw [if_pos hl]
  · rw [← List.drop_drop, h, List.drop_left' (be_length v n)]
theorem txt_of {bs : List UInt8} {i : Nat} {t r : List UInt8} (h : bs.drop i = be t.length 2 ++ (t ++ r)) (ht : t.length ≤ 65535) : txtAt bs i = t ∧ txtTo bs i = i + 2 + t.length ∧ bs.drop (i + 2 + t.length) = r ∧ TxtOk bs i := by
  obtain ⟨h1, h2, h3, h4⟩ := num_of h (by omega) (show t.length < 256 ^ 2 by omega)
  have h5 : beVal ((bs.drop i).take 2) = t.length := by unfold numAt at h1; rwa [if_pos h4] at h1
  have h6 : i + 2 + t.length ≤ bs.length := by
    have := congrArg List.length h3
    simp at this
    omega
  have ok : TxtOk bs i := ⟨h4, by rw [h5]; exact h6⟩
  have h7 : txtAt bs i = t := by unfold txtAt; rw [if_pos ok, h5, h3, List.take_left]
  refine ⟨h7, ?_, ?_, ok⟩
  · unfold txtTo; rw [if_pos ok, h7]
  · rw [← List.drop_drop, h3, List.drop_left]
end Go.Proofs.YtafgiljgefeefaaDoor
