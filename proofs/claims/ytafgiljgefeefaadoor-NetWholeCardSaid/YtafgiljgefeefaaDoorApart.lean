/- The walk of OperApart: bytes of operations and of answers tell them apart. -/
import Derived.Test.YtafgiljgefeefaaDoorOp2
import Derived.Test.YtafgiljgefeefaaDoorAns2
import Derived.Test.YtafgiljgefeefaaDoorSame10
import Derived.Test.YtafgiljgefeefaaDoorNames10
import Derived.Test.YtafgiljgefeefaaDoorBytes
import Derived.Deep.QuietTactic
import Derived.BigQuiet
import Derived.Deep.RegionHeld3
namespace Go.Proofs.YtafgiljgefeefaaDoor
open Go.RowKit
set_option linter.unusedVariables false

theorem text_inj {a b x y : List UInt8} (ha : a.length ≤ 65535) (hb : b.length ≤ 65535) (h : be a.length 2 ++ (a ++ x) = be b.length 2 ++ (b ++ y)) : a = b ∧ x = y := by
  have h1 := List.append_inj h (by rw [be_length, be_length])
  have hl : a.length = b.length := (be_inj _ _ 2 (by omega) (by omega)).1 h1.1
  exact List.append_inj h1.2 hl
theorem num_inj {m n s : Nat} {x y : List UInt8} (hm : m < 256 ^ s) (hn : n < 256 ^ s) (h : be m s ++ x = be n s ++ y) : m = n ∧ x = y := by
  have h1 := List.append_inj h (by rw [be_length, be_length])
  exact ⟨(be_inj _ _ s hm hn).1 h1.1, h1.2⟩

theorem opBytes_inj {k off n k2 off2 n2 : Int} {p t p2 t2 : ByteArray} {ds ds2 : List UInt8} (h : OpRight k off n p t ds.length) (h2 : OpRight k2 off2 n2 p2 t2 ds2.length) :
    opBytes k off n p t ds = opBytes k2 off2 n2 p2 t2 ds2 ↔ (k = k2 ∧ p = p2 ∧ t = t2 ∧ off = off2 ∧ n = n2 ∧ ds = ds2) := by
  obtain ⟨a1, a2, a3, a4, ⟨a5, a6⟩, ⟨a7, a8⟩, a9⟩ := h
  obtain ⟨b1, b2, b3, b4, ⟨b5, b6⟩, ⟨b7, b8⟩, b9⟩ := h2
  constructor
  · intro e
    unfold opBytes at e
    simp only [List.nil_append, List.append_assoc] at e
    obtain ⟨e1, e⟩ := num_inj (by omega) (by omega) e
    obtain ⟨e2, e⟩ := num_inj (by omega) (by omega) e
    obtain ⟨e3, e⟩ := num_inj (by omega) (by omega) e
    have hp := sb_length p
    have ht := sb_length t
    have hp2 := sb_length p2
    have ht2 := sb_length t2
    obtain ⟨e4, e⟩ := text_inj (by omega) (by omega) e
    obtain ⟨e5, e⟩ := text_inj (by omega) (by omega) e
    obtain ⟨_, e6⟩ := num_inj (by omega) (by omega) e
    exact ⟨by omega, sb_inj e4, sb_inj e5, by omega, by omega, e6⟩
  · rintro ⟨rfl, rfl, rfl, rfl, rfl, rfl⟩
    rfl

theorem texts_inj : ∀ {ss tt : List ByteArray}, (∀ s ∈ ss, NameOk s) → (∀ s ∈ tt, NameOk s) → ss.length = tt.length → texts ss = texts tt → ss = tt
  | [], [], _, _, _, _ => rfl
  | [], _ :: _, _, _, h, _ => by simp at h
  | _ :: _, [], _, _, h, _ => by simp at h
  | s :: r, t :: q, hs, ht, hl, h => by
    have h1 := (hs s (by simp)).2
    have h2 := (ht t (by simp)).2
    have l1 := sb_length s
    have l2 := sb_length t
    simp only [texts, List.append_assoc] at h
    obtain ⟨e1, e2⟩ := text_inj (by omega) (by omega) h
    rw [sb_inj e1, texts_inj (fun x hx => hs x (by simp [hx])) (fun x hx => ht x (by simp [hx])) (by simpa using hl) e2]

theorem ansBytes_inj {c n c2 n2 : Int} {ds ds2 : List UInt8} {ss tt : List ByteArray} (h : AnsRight c n ds.length ss) (h2 : AnsRight c2 n2 ds2.length tt) :
    ansBytes c n ds ss = ansBytes c2 n2 ds2 tt ↔ (c = c2 ∧ n = n2 ∧ ds = ds2 ∧ ss = tt) := by
  obtain ⟨⟨a1, a2⟩, ⟨a3, a4⟩, a5, a6, a7⟩ := h
  obtain ⟨⟨b1, b2⟩, ⟨b3, b4⟩, b5, b6, b7⟩ := h2
  constructor
  · intro e
    unfold ansBytes ansHead at e
    simp only [List.nil_append, List.append_assoc] at e
    obtain ⟨e1, e⟩ := num_inj (by omega) (by omega) e
    obtain ⟨e2, e⟩ := num_inj (by omega) (by omega) e
    obtain ⟨e3, e⟩ := text_inj (by omega) (by omega) e
    obtain ⟨e4, e⟩ := num_inj (by omega) (by omega) e
    exact ⟨by omega, by omega, e3, texts_inj a7 b7 e4 e⟩
  · rintro ⟨rfl, rfl, rfl, rfl⟩
    rfl

theorem six_six {P : Program} {w : World} {b b2 : Nat} {u0 u1 u2 u3 u4 u5 v0 v1 v2 v3 v4 v5 x y sx sy : Value} {t ts te : TypeId}
    (h : w.heap[b]? = some (.cells #[u0, u1, u2, u3, u4, u5] t (0, 0))) (h2 : w.heap[b2]? = some (.cells #[v0, v1, v2, v3, v4, v5] t (0, 0)))
    (hx : (convert ts te x).run P w = .ok sx w) (hy : (convert ts te y).run P w = .ok sy w) :
    (convert ts te x).run P w = .ok sx w ∧ (convert ts te y).run P w = .ok sy w ∧
    w.cell? ⟨b, 0, none⟩ = some u0 ∧ w.cell? ⟨b, 1, none⟩ = some u1 ∧ w.cell? ⟨b, 2, none⟩ = some u2 ∧ w.cell? ⟨b, 3, none⟩ = some u3 ∧ w.cell? ⟨b, 4, none⟩ = some u4 ∧ w.cell? ⟨b, 5, none⟩ = some u5 ∧
    w.cell? ⟨b2, 0, none⟩ = some v0 ∧ w.cell? ⟨b2, 1, none⟩ = some v1 ∧ w.cell? ⟨b2, 2, none⟩ = some v2 ∧ w.cell? ⟨b2, 3, none⟩ = some v3 ∧ w.cell? ⟨b2, 4, none⟩ = some v4 ∧ w.cell? ⟨b2, 5, none⟩ = some v5 :=
  ⟨hx, hy, (cell_of_six h).1, (cell_of_six h).2.1, (cell_of_six h).2.2.1, (cell_of_six h).2.2.2.1, (cell_of_six h).2.2.2.2.1, (cell_of_six h).2.2.2.2.2,
    (cell_of_six h2).1, (cell_of_six h2).2.1, (cell_of_six h2).2.2.1, (cell_of_six h2).2.2.2.1, (cell_of_six h2).2.2.2.2.1, (cell_of_six h2).2.2.2.2.2⟩

/-- What Write answers: bytes, or nothing. -/
def WriteEnd (k off n : Int) (p t : ByteArray) (ds : List UInt8) (w w' : World) (v : Value) (e : Int) : Prop :=
  (¬ OpRight k off n p t ds.length ∧ e = 1) ∨ (OpRight k off n p t ds.length ∧ e = 0 ∧ w'.ownsRow w.heap.size 5 1 v (opBytes k off n p t ds).length (u8s (opBytes k off n p t ds)))
theorem write_any (k off n : Int) (p t : ByteArray) (ao : Option Addr) (cap : Nat) (ds : List UInt8) (w : World) (hx : Bytes w (.slice ao ds.length cap) ds) :
    Calls Tryd.prog 34 #[opVal k off n p t (.slice ao ds.length cap)] w fun e w' => ∃ v c, e = .returned (.tuple #[v, .int .i64 c]) ∧ WriteEnd k off n p t ds w w' v c ∧ Same w w' := by
  by_cases h : OpRight k off n p t ds.length
  · exact (write_yes k off n p t ao cap ds w h hx).mono fun e w' ⟨v, h1, h2, h3⟩ => ⟨v, 0, h1, .inr ⟨h, rfl, h2⟩, h3⟩
  · exact (write_no k off n p t ao ds.length cap w h).mono fun e w' ⟨h1, h3⟩ => ⟨_, 1, h1, .inl ⟨h, rfl⟩, h3⟩

end Go.Proofs.YtafgiljgefeefaaDoor
