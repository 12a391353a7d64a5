/- Texts read one behind the other. -/
import Derived.Test.YtafgiljgefeefaaDoorRd
import Derived.Test.YtafgiljgefeefaaDoorAns2
namespace Go.Proofs.YtafgiljgefeefaaDoor
set_option linter.unusedVariables false

def namesAt (bs : List UInt8) : Nat → Nat → List ByteArray
  | _, 0 => []
  | i, k + 1 => ⟨(txtAt bs i).toArray⟩ :: namesAt bs (txtTo bs i) k
def namesTo (bs : List UInt8) : Nat → Nat → Nat
  | i, 0 => i
  | i, k + 1 => namesTo bs (txtTo bs i) k
def namesOk (bs : List UInt8) : Nat → Nat → Prop
  | _, 0 => True
  | i, k + 1 => TxtOk bs i ∧ namesOk bs (txtTo bs i) k
theorem namesAt_length (bs : List UInt8) : ∀ i k, (namesAt bs i k).length = k
  | _, 0 => rfl
  | i, k + 1 => by simp [namesAt, namesAt_length bs (txtTo bs i) k]
theorem namesTo_succ (bs : List UInt8) : ∀ i k, namesTo bs i (k + 1) = txtTo bs (namesTo bs i k)
  | _, 0 => rfl
  | i, k + 1 => by
    show namesTo bs (txtTo bs i) (k + 1) = _
    rw [namesTo_succ bs (txtTo bs i) k]
    rfl
theorem namesAt_succ (bs : List UInt8) : ∀ i k, namesAt bs i (k + 1) = namesAt bs i k ++ [⟨(txtAt bs (namesTo bs i k)).toArray⟩]
  | _, 0 => rfl
  | i, k + 1 => by
    show ⟨(txtAt bs i).toArray⟩ :: namesAt bs (txtTo bs i) (k + 1) = _
    rw [namesAt_succ bs (txtTo bs i) k]
    rfl
theorem namesOk_succ (bs : List UInt8) : ∀ i k, namesOk bs i (k + 1) ↔ namesOk bs i k ∧ TxtOk bs (namesTo bs i k)
  | _, 0 => by simp [namesOk, namesTo]
  | i, k + 1 => by
    show TxtOk bs i ∧ namesOk bs (txtTo bs i) (k + 1) ↔ _
    rw [namesOk_succ bs (txtTo bs i) k]
    show _ ↔ (TxtOk bs i ∧ namesOk bs (txtTo bs i) k) ∧ TxtOk bs (namesTo bs (txtTo bs i) k)
    exact and_assoc.symm
/-- What was written is read. -/
theorem names_of {bs : List UInt8} : ∀ {ss : List ByteArray} {i : Nat} {r : List UInt8}, bs.drop i = texts ss ++ r → (∀ s ∈ ss, s.size ≤ 65535) → namesAt bs i ss.length = ss ∧ namesOk bs i ss.length ∧ bs.drop (namesTo bs i ss.length) = r
  | [], i, r, h, _ => ⟨rfl, trivial, by simpa [texts, namesTo] using h⟩
  | s :: ss, i, r, h, hs => by
    have h1 : bs.drop i = be (sb s).length 2 ++ (sb s ++ (texts ss ++ r)) := by rw [h]; simp [texts, List.append_assoc]
    obtain ⟨c, d, e, f⟩ := txt_of h1 (by rw [sb_length]; exact hs s (by simp))
    rw [← d] at e
    obtain ⟨q1, q2, q3⟩ := names_of e (fun x hx => hs x (by simp [hx]))
    refine ⟨?_, ⟨f, q2⟩, q3⟩
    show ⟨(txtAt bs i).toArray⟩ :: namesAt bs (txtTo bs i) ss.length = s :: ss
    rw [q1, c]
    congr 1
/-- And what was read whole is what stands there. -/
theorem names_split {bs : List UInt8} : ∀ {i k : Nat}, namesOk bs i k → bs.drop i = texts (namesAt bs i k) ++ bs.drop (namesTo bs i k)
  | i, 0, _ => by simp [namesAt, namesTo, texts]
  | i, k + 1, ⟨h1, h2⟩ => by
    have h3 := txt_split h1
    have h4 : txtTo bs i = i + 2 + (txtAt bs i).length := by unfold txtTo; rw [if_pos h1]
    rw [← h4, names_split h2] at h3
    rw [h3]
    show _ = ((be (sb ⟨(txtAt bs i).toArray⟩).length 2 ++ sb ⟨(txtAt bs i).toArray⟩) ++ texts (namesAt bs (txtTo bs i) k)) ++ bs.drop (namesTo bs (txtTo bs i) k)
    rw [sb_mk]
    simp [List.append_assoc]

theorem ansBytes_flat (c n : Int) (ds : List UInt8) (ss : List ByteArray) : ansBytes c n ds ss = be c.toNat 2 ++ (be n.toNat 2 ++ (be ds.length 2 ++ (ds ++ (be ss.length 1 ++ (texts ss ++ []))))) := by
  simp [ansBytes, ansHead, List.append_assoc]
/-- An answer's bytes are read as its parts. -/
theorem rd_of_ans {bs : List UInt8} {c n : Int} {ds : List UInt8} {ss : List ByteArray} (h : AnsRight c n ds.length ss) (hb : ansBytes c n ds ss = bs) (i1 i2 i3 i4 : Nat) (h1 : numTo bs 0 2 = i1) (h2 : numTo bs i1 2 = i2) (h3 : txtTo bs i2 = i3) (h4 : numTo bs i3 1 = i4) :
    (numAt bs 0 2 : Int) = c ∧ (numAt bs i1 2 : Int) = n ∧ txtAt bs i2 = ds ∧ numAt bs i3 1 = ss.length ∧ namesAt bs i4 ss.length = ss ∧ (0 + 2 ≤ bs.length ∧ i1 + 2 ≤ bs.length ∧ TxtOk bs i2 ∧ i3 + 1 ≤ bs.length ∧ namesOk bs i4 ss.length ∧ bs.drop (namesTo bs i4 ss.length) = []) := by
  obtain ⟨⟨a1, a2⟩, ⟨a3, a4⟩, a5, a6, a7⟩ := h
  rw [ansBytes_flat] at hb
  have b0 : bs.drop 0 = be c.toNat 2 ++ (be n.toNat 2 ++ (be ds.length 2 ++ (ds ++ (be ss.length 1 ++ (texts ss ++ []))))) := by rw [List.drop_zero, hb]
  obtain ⟨c1, d1, e1, f1⟩ := num_of b0 (by omega) (by omega)
  rw [h1] at d1; subst d1
  obtain ⟨c2, d2, e2, f2⟩ := num_of e1 (by omega) (by omega)
  rw [h2] at d2; subst d2
  obtain ⟨c3, d3, e3, f3⟩ := txt_of e2 (by omega)
  rw [h3] at d3; subst d3
  obtain ⟨c4, d4, e4, f4⟩ := num_of e3 (by omega) (by omega)
  rw [h4] at d4; subst d4
  obtain ⟨c5, d5, e5⟩ := names_of e4 (fun s hs => by have := (a7 s hs).2; omega)
  exact ⟨by rw [c1]; omega, by rw [c2]; omega, c3, c4, c5, f1, f2, f3, f4, d5, e5⟩
/-- And what was read whole is its bytes. -/
theorem ans_of_rd {bs : List UInt8} {i1 i2 i3 i4 : Nat} (h1 : numTo bs 0 2 = i1) (h2 : numTo bs i1 2 = i2) (h3 : txtTo bs i2 = i3) (h4 : numTo bs i3 1 = i4)
    (q : 0 + 2 ≤ bs.length ∧ i1 + 2 ≤ bs.length ∧ TxtOk bs i2 ∧ i3 + 1 ≤ bs.length ∧ namesOk bs i4 (numAt bs i3 1) ∧ bs.drop (namesTo bs i4 (numAt bs i3 1)) = []) :
    ansBytes (numAt bs 0 2 : Nat) (numAt bs i1 2 : Nat) (txtAt bs i2) (namesAt bs i4 (numAt bs i3 1)) = bs := by
  obtain ⟨q1, q2, q3, q4, q5, q6⟩ := q
  unfold numTo at h1 h2 h4
  unfold txtTo at h3
  rw [if_pos q1] at h1
  rw [if_pos q2] at h2
  rw [if_pos q3] at h3
  rw [if_pos q4] at h4
  rw [ansBytes_flat, namesAt_length]
  simp only [Int.toNat_natCast]
  have s1 := num_split q1
  have s2 := num_split q2
  have s3 := txt_split q3
  have s4 := num_split q4
  have s5 := names_split q5
  rw [h1] at s1
  rw [h2] at s2
  rw [h3] at s3
  rw [h4] at s4
  rw [q6] at s5
  rw [← s5, ← s4, ← s3, ← s2, ← s1, List.drop_zero]
/-- An own row of strings reads as them. -/
theorem Strs.of_own {w : World} {base : Nat} {e : TypeId} {v : Value} {ss : List ByteArray} (h : w.ownsRow base e 1 v ss.length (ss.map Value.string)) : Strs w v ss := by
  rcases h.2 with ⟨rfl, h0⟩ | ⟨g, cap, cur, rfl, _, _⟩
  · have : ss = [] := List.length_eq_zero_iff.1 h0
    subst this
    exact .inr ⟨0, rfl, rfl⟩
  · exact .inl ⟨⟨g, 0, none⟩, cap, rfl, fun j s hs => h.cells rfl j _ (by rw [List.getElem?_map, hs]; rfl)⟩
end Go.Proofs.YtafgiljgefeefaaDoor
