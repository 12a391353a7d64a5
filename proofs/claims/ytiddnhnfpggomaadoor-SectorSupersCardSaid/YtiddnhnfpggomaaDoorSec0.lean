/- Sectors as bytes: a block's, a node's; no program is named here but by the digest. -/
import Derived.Test.YtiddnhnfpggomaaDoorEye3
import Derived.Test.YtiddnhnfpggomaaDoorSha8
namespace Go.Proofs.YtiddnhnfpggomaaDoor

/-- Bytes with noughts behind them, up to a sector's end. -/
def padB (bs : List UInt8) : List UInt8 := bs ++ List.replicate (512 - bs.length) 0
theorem padB_length (bs : List UInt8) (h : bs.length ≤ 512) : (padB bs).length = 512 := by simp [padB]; omega
theorem padB_inj {a b : List UInt8} (hl : a.length = b.length) (h : padB a = padB b) : a = b := (List.append_inj h hl).1

/-- A block's text: the mark, the length, the block. -/
def wrapT (b : List UInt8) : List UInt8 := 66 :: (be b.length 2 ++ b)
theorem wrapT_length (b : List UInt8) : (wrapT b).length = 3 + b.length := by simp [wrapT, be_length]; omega
def wrapB (b : List UInt8) : List UInt8 := padB (wrapT b)
theorem wrapB_length (b : List UInt8) (h : b.length ≤ 470) : (wrapB b).length = 512 := padB_length _ (by rw [wrapT_length]; omega)

theorem beVal_be (n s : Nat) (h : n < 256 ^ s) : beVal (be n s) = n := by
  have hl : (be n s).length = s := be_length n s
  have key : ∀ s, beVal (be n s) = n % 256 ^ s := by
    intro s
    induction s with
    | zero => simp [be, beVal, Nat.mod_one]
    | succ s ih => rw [be_succ, beVal_cons, ih, be_length, byte_toNat, split_at]; rw [Nat.mul_comm]; omega
  rw [key, Nat.mod_eq_of_lt h]
theorem be_beVal (l : List UInt8) : be (beVal l) l.length = l := by
  induction l with
  | nil => simp [be]
  | cons b l ih =>
    have hlt := beVal_lt l
    rw [List.length_cons, be_succ, beVal_cons]
    have h1 : (b.toNat * 256 ^ l.length + beVal l) / 256 ^ l.length = b.toNat := by
      rw [Nat.mul_comm, Nat.mul_add_div (Nat.pow_pos (by omega)), Nat.div_eq_of_lt hlt, Nat.add_zero]
    rw [h1]
    have h2 : be (b.toNat * 256 ^ l.length + beVal l) l.length = be (beVal l) l.length := (be_inj_mod _ _ _).2 (by rw [Nat.mul_comm, Nat.mul_add_mod])
    rw [h2, ih]
    simp
theorem wrapB_at (b : List UInt8) (h : b.length ≤ 470) : (wrapB b)[0]? = some 66 ∧ ((wrapB b).drop 1).take 2 = be b.length 2 ∧ ((wrapB b).drop 3).take b.length = b ∧ (wrapB b).drop (3 + b.length) = List.replicate (509 - b.length) 0 := by
  have h2 : (be b.length 2).length = 2 := be_length _ _
  refine ⟨by simp [wrapB, padB, wrapT], ?_, ?_, ?_⟩
  · simp only [wrapB, padB, wrapT, List.cons_append, List.drop_succ_cons, List.drop_zero, List.append_assoc]
    rw [List.take_append_of_le_length (by omega), List.take_of_length_le (by omega)]
  · simp only [wrapB, padB, wrapT, List.cons_append, List.drop_succ_cons, List.append_assoc]
    rw [List.drop_append_of_le_length (by omega), List.drop_of_length_le (by omega), List.nil_append, List.take_append_of_le_length (by omega), List.take_of_length_le (by omega)]
  · simp only [wrapB, padB]
    rw [List.drop_append, wrapT_length, List.drop_of_length_le (by rw [wrapT_length]; omega)]
    simp
    omega
theorem wrapB_inj {a b : List UInt8} (ha : a.length ≤ 470) (hb : b.length ≤ 470) (h : wrapB a = wrapB b) : a = b := by
  obtain ⟨_, a1, a2, _⟩ := wrapB_at a ha
  obtain ⟨_, b1, b2, _⟩ := wrapB_at b hb
  have hl : a.length = b.length := (be_inj _ _ 2 (by omega) (by omega)).1 (by rw [← a1, ← b1, h])
  rw [← a2, ← b2, h, hl]
/-- What the document asks of a block's sector. -/
theorem wrapB_of (bs : List UInt8) (n : Nat) (hl : bs.length = 512) (h0 : bs[0]? = some 66) (h1 : beVal ((bs.drop 1).take 2) = n) (hn : n ≤ 470) (hz : bs.drop (3 + n) = List.replicate (509 - n) 0) : wrapB ((bs.drop 3).take n) = bs := by
  have hbl : ((bs.drop 3).take n).length = n := by simp; omega
  have e2 : be n 2 = (bs.drop 1).take 2 := by
    have : ((bs.drop 1).take 2).length = 2 := by simp; omega
    have h2 := be_beVal ((bs.drop 1).take 2)
    rw [this, h1] at h2
    exact h2
  unfold wrapB padB
  rw [wrapT_length, hbl, show 512 - (3 + n) = 509 - n from by omega, ← hz]
  unfold wrapT
  rw [hbl, e2]
  have e0 : bs = 66 :: bs.drop 1 := by
    cases bs with
    | nil => simp at hl
    | cons b r => simp at h0; simp [h0]
  conv => rhs; rw [e0]
  have e3 : bs.drop 1 = (bs.drop 1).take 2 ++ ((bs.drop 3).take n ++ bs.drop (3 + n)) := by
    have a1 := (List.take_append_drop 2 (bs.drop 1)).symm
    have a2 := (List.take_append_drop n (bs.drop 3)).symm
    rw [List.drop_drop] at a1 a2
    rw [← a2]
    exact a1
  conv => rhs; rw [e3]
  simp only [List.cons_append, List.append_assoc]

/-- What a node knows of itself. -/
structure Sup where
  seq : Nat
  view : Nat
  normal : Nat
  gen : Nat
  commit : Nat
  head : List UInt8
structure Sup.Ok (s : Sup) : Prop where
  seq : s.seq < 18446744073709551616
  view : s.view < 18446744073709551616
  normal : s.normal < 18446744073709551616
  gen : s.gen < 18446744073709551616
  commit : s.commit < 18446744073709551616
  head : s.head.length = 32
def Sup.cells (s : Sup) : List Value := [.int .u64 (s.seq : Int), .int .u64 (s.view : Int), .int .u64 (s.normal : Int), .int .u64 (s.gen : Int), .int .u64 (s.commit : Int)] ++ u8s s.head
def sup0 : Sup := ⟨0, 0, 0, 0, 0, List.replicate 32 0⟩
theorem sup0_ok : sup0.Ok := ⟨by simp [sup0], by simp [sup0], by simp [sup0], by simp [sup0], by simp [sup0], by simp [sup0]⟩
/-- A node's text, without the digest. -/
def supT (s : Sup) : List UInt8 := 83 :: (be s.seq 8 ++ (be s.view 8 ++ (be s.normal 8 ++ (be s.gen 8 ++ (be s.commit 8 ++ s.head)))))
theorem supT_length (s : Sup) (h : s.Ok) : (supT s).length = 73 := by simp [supT, be_length, h.head]
def superB (s : Sup) : List UInt8 := padB (supT s ++ shaOf (supT s))
theorem superB_length (s : Sup) (h : s.Ok) : (superB s).length = 512 := padB_length _ (by rw [List.length_append, supT_length s h, shaOf_length]; omega)
theorem superB_front (s : Sup) (h : s.Ok) : (superB s).take 73 = supT s := by
  unfold superB padB
  rw [List.append_assoc, List.take_append_of_le_length (by rw [supT_length s h]; omega), List.take_of_length_le (by rw [supT_length s h]; omega)]
theorem superB_zero (s : Sup) : (superB s)[0]? = some 83 := by simp [superB, padB, supT]
/-- What stands where in a node's sector. -/
theorem superB_at (s : Sup) (h : s.Ok) : beVal (((superB s).drop 1).take 8) = s.seq ∧ beVal (((superB s).drop 9).take 8) = s.view ∧ beVal (((superB s).drop 17).take 8) = s.normal ∧ beVal (((superB s).drop 25).take 8) = s.gen ∧
    beVal (((superB s).drop 33).take 8) = s.commit ∧ ((superB s).drop 41).take 32 = s.head := by
  have l1 := be_length s.seq 8
  have l2 := be_length s.view 8
  have l3 := be_length s.normal 8
  have l4 := be_length s.gen 8
  have l5 := be_length s.commit 8
  have l6 := h.head
  have v1 := beVal_be s.seq 8 h.seq
  have v2 := beVal_be s.view 8 h.view
  have v3 := beVal_be s.normal 8 h.normal
  have v4 := beVal_be s.gen 8 h.gen
  have v5 := beVal_be s.commit 8 h.commit
  simp only [superB, padB, supT, List.cons_append, List.append_assoc]
  generalize be s.seq 8 = b1 at *
  generalize be s.view 8 = b2 at *
  generalize be s.normal 8 = b3 at *
  generalize be s.gen 8 = b4 at *
  generalize be s.commit 8 = b5 at *
  generalize shaOf _ ++ List.replicate _ _ = rest
  have d1 : ∀ k, 8 ≤ k → b1.drop k = [] := fun k hk => List.drop_of_length_le (by omega)
  have d2 : ∀ k, 8 ≤ k → b2.drop k = [] := fun k hk => List.drop_of_length_le (by omega)
  have d3 : ∀ k, 8 ≤ k → b3.drop k = [] := fun k hk => List.drop_of_length_le (by omega)
  have d4 : ∀ k, 8 ≤ k → b4.drop k = [] := fun k hk => List.drop_of_length_le (by omega)
  simp [List.drop_append, l1, l2, l3, l4, l5, l6, v1, v2, v3, v4, v5, d1, d2, d3, d4]
theorem superB_inj {s t : Sup} (hs : s.Ok) (ht : t.Ok) (h : superB s = superB t) : s = t := by
  obtain ⟨a1, a2, a3, a4, a5, a6⟩ := superB_at s hs
  obtain ⟨b1, b2, b3, b4, b5, b6⟩ := superB_at t ht
  rw [h] at a1 a2 a3 a4 a5 a6
  cases s; cases t
  simp only [Sup.mk.injEq] at *
  exact ⟨a1.symm.trans b1, a2.symm.trans b2, a3.symm.trans b3, a4.symm.trans b4, a5.symm.trans b5, a6.symm.trans b6⟩
/-- What is read of a sector as a node's. -/
def supOf (bs : List UInt8) : Sup := ⟨beVal ((bs.drop 1).take 8), beVal ((bs.drop 9).take 8), beVal ((bs.drop 17).take 8), beVal ((bs.drop 25).take 8), beVal ((bs.drop 33).take 8), (bs.drop 41).take 32⟩
theorem supOf_superB (s : Sup) (h : s.Ok) : supOf (superB s) = s := by
  obtain ⟨a1, a2, a3, a4, a5, a6⟩ := superB_at s h
  cases s
  simp only [supOf, a1, a2, a3, a4, a5, a6]
theorem beVal_eight (bs : List UInt8) (i : Nat) (h : i + 8 ≤ bs.length) : beVal ((bs.drop i).take 8) < 18446744073709551616 := by
  have := beVal_lt ((bs.drop i).take 8)
  rw [show ((bs.drop i).take 8).length = 8 from by simp; omega] at this
  exact this
theorem supOf_ok (bs : List UInt8) (h : 73 ≤ bs.length) : (supOf bs).Ok :=
  ⟨beVal_eight bs 1 (by omega), beVal_eight bs 9 (by omega), beVal_eight bs 17 (by omega), beVal_eight bs 25 (by omega), beVal_eight bs 33 (by omega), by simp [supOf]; omega⟩
theorem supT_of (bs : List UInt8) (h : 73 ≤ bs.length) (h0 : bs[0]? = some 83) : supT (supOf bs) = bs.take 73 := by
  have e8 : ∀ i, i + 8 ≤ bs.length → be (beVal ((bs.drop i).take 8)) 8 = (bs.drop i).take 8 := by
    intro i hi
    have : ((bs.drop i).take 8).length = 8 := by simp; omega
    have h2 := be_beVal ((bs.drop i).take 8)
    rw [this] at h2
    exact h2
  have e0 : bs = 83 :: bs.drop 1 := by
    cases bs with
    | nil => simp at h
    | cons b r => simp at h0; simp [h0]
  unfold supT supOf
  simp only
  rw [e8 1 (by omega), e8 9 (by omega), e8 17 (by omega), e8 25 (by omega), e8 33 (by omega)]
  conv => rhs; rw [e0]
  rw [List.take_succ_cons]
  congr 1
  have step : ∀ i n m, (bs.drop i).take n ++ (bs.drop (i + n)).take m = (bs.drop i).take (n + m) := by
    intro i n m
    rw [List.take_add, List.drop_drop]
  rw [step 33 8 32, step 25 8 40, step 17 8 48, step 9 8 56, step 1 8 64]
end Go.Proofs.YtiddnhnfpggomaaDoor
