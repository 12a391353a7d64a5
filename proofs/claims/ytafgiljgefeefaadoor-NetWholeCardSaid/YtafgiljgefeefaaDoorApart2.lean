/- The document's comparing of answers; the walk of OperApart's second half. -/
import Derived.Test.YtafgiljgefeefaaDoorApart
namespace Go.Proofs.YtafgiljgefeefaaDoor
open Go.RowKit
set_option linter.unusedVariables false

/-- What Same of two answers tells. -/
def AnsPost (w : World) (e : Ending) (w' : World) (q : Prop) : Prop := ∃ b, e = .returned (.bool b) ∧ Same w w' ∧ (b = true ↔ q)
theorem AnsPost.no {w w' : World} {q : Prop} (h : ¬ q) (k : Same w w') : AnsPost w (.returned (.bool false)) w' q := ⟨false, rfl, k, ⟨fun e => (by cases e), fun e => absurd e h⟩⟩

set_option maxRecDepth 100000 in
set_option maxHeartbeats 3200000 in
theorem sameAns_no1 (c n c2 n2 : Int) (ao ao2 no no2 : Option Addr) (cap cap2 ncap ncap2 : Nat) (ds ds2 : List UInt8) (ss tt : List ByteArray) (w : World) (q : (c == c2) = false) :
    Calls Tryd.prog 22 #[ansVal c n (.slice ao ds.length cap) (.slice no ss.length ncap), ansVal c2 n2 (.slice ao2 ds2.length cap2) (.slice no2 tt.length ncap2)] w fun e w' => AnsPost w e w' (c = c2 ∧ n = n2 ∧ ds = ds2 ∧ ss = tt) := by
  have q2 : ¬ c = c2 := by simpa using q
  have HQ := Lib.hid q2
  go_enter Tryd.func22, Tryd.ntmps22
  go_wp2
  go_ret
  exact AnsPost.no (fun h => HQ.out h.1) (((Keeps.refl _ _).alloc _).alloc _)

set_option maxRecDepth 100000 in
set_option maxHeartbeats 3200000 in
theorem sameAns_no2 (c n n2 : Int) (ao ao2 no no2 : Option Addr) (cap cap2 ncap ncap2 : Nat) (ds ds2 : List UInt8) (ss tt : List ByteArray) (w : World) (q : (n == n2) = false) :
    Calls Tryd.prog 22 #[ansVal c n (.slice ao ds.length cap) (.slice no ss.length ncap), ansVal c n2 (.slice ao2 ds2.length cap2) (.slice no2 tt.length ncap2)] w fun e w' => AnsPost w e w' (c = c ∧ n = n2 ∧ ds = ds2 ∧ ss = tt) := by
  have q2 : ¬ n = n2 := by simpa using q
  have HQ := Lib.hid q2
  go_enter Tryd.func22, Tryd.ntmps22
  go_wp2
  go_ret
  exact AnsPost.no (fun h => HQ.out h.2.1) (((Keeps.refl _ _).alloc _).alloc _)

set_option maxRecDepth 100000 in
set_option maxHeartbeats 3200000 in
theorem sameAns_no3 (c n : Int) (ao ao2 no no2 : Option Addr) (cap cap2 ncap ncap2 : Nat) (ds ds2 : List UInt8) (ss tt : List ByteArray) (w : World) (hx : Bytes w (.slice ao ds.length cap) ds) (hy : Bytes w (.slice ao2 ds2.length cap2) ds2)
    (hsx : ∀ a, ao = some a → ds ≠ [] → a.spot = none) (hsy : ∀ a, ao2 = some a → ds2 ≠ [] → a.spot = none) (q : (ds == ds2) = false) :
    Calls Tryd.prog 22 #[ansVal c n (.slice ao ds.length cap) (.slice no ss.length ncap), ansVal c n (.slice ao2 ds2.length cap2) (.slice no2 tt.length ncap2)] w fun e w' => AnsPost w e w' (c = c ∧ n = n ∧ ds = ds2 ∧ ss = tt) := by
  have hk : Same w ((w.alloc (.cells #[.int .i64 c, .int .i64 n, .slice ao ds.length cap, .slice no ss.length ncap] 41 (0, 0))).alloc (.cells #[.int .i64 c, .int .i64 n, .slice ao2 ds2.length cap2, .slice no2 tt.length ncap2] 41 (0, 0))) := ((Keeps.refl _ _).alloc _).alloc _
  have c1 := run_string' (P := Tryd.prog) (hx.same hk) hsx 33 9 5 Tryd.underlying33 Tryd.underlying5 Tryd.underlying9
  have c2 := run_string' (P := Tryd.prog) (hy.same hk) hsy 33 9 5 Tryd.underlying33 Tryd.underlying5 Tryd.underlying9
  have q2 : ¬ ds = ds2 := by simpa using q
  have HQ := Lib.hid q2
  clear hk hx hy hsx hsy
  go_enter Tryd.func22, Tryd.ntmps22
  go_wp2
  go_ret
  exact AnsPost.no (fun h => HQ.out h.2.2.1) (((Keeps.refl _ _).alloc _).alloc _)

set_option maxRecDepth 100000 in
set_option maxHeartbeats 3200000 in
theorem sameAns_last (c n : Int) (ao ao2 no no2 : Option Addr) (cap cap2 ncap ncap2 : Nat) (ds : List UInt8) (ss tt : List ByteArray) (w : World) (hx : Bytes w (.slice ao ds.length cap) ds) (hy : Bytes w (.slice ao2 ds.length cap2) ds)
    (hsx : ∀ a, ao = some a → ds ≠ [] → a.spot = none) (hsy : ∀ a, ao2 = some a → ds ≠ [] → a.spot = none)
    (hs : Strs w (.slice no ss.length ncap) ss) (ht : Strs w (.slice no2 tt.length ncap2) tt) (hl : ss.length ≤ 140737488351232) :
    Calls Tryd.prog 22 #[ansVal c n (.slice ao ds.length cap) (.slice no ss.length ncap), ansVal c n (.slice ao2 ds.length cap2) (.slice no2 tt.length ncap2)] w fun e w' => AnsPost w e w' (c = c ∧ n = n ∧ ds = ds ∧ ss = tt) := by
  have hk : Same w ((w.alloc (.cells #[.int .i64 c, .int .i64 n, .slice ao ds.length cap, .slice no ss.length ncap] 41 (0, 0))).alloc (.cells #[.int .i64 c, .int .i64 n, .slice ao2 ds.length cap2, .slice no2 tt.length ncap2] 41 (0, 0))) := ((Keeps.refl _ _).alloc _).alloc _
  have c1 := run_string' (P := Tryd.prog) (hx.same hk) hsx 33 9 5 Tryd.underlying33 Tryd.underlying5 Tryd.underlying9
  have c2 := run_string' (P := Tryd.prog) (hy.same hk) hsy 33 9 5 Tryd.underlying33 Tryd.underlying5 Tryd.underlying9
  have HS := Lib.hid (hs.same hk)
  have HT := Lib.hid (ht.same hk)
  clear hk hx hy hsx hsy hs ht
  go_enter Tryd.func22, Tryd.ntmps22
  go_wp2_with fail
  ((with_reducible refine (same_texts_any no no2 ncap ncap2 ss tt _ HS.out HT.out hl).mono ?_); rintro e w1 ⟨b, rfl, ⟨m, rfl⟩, hb⟩)
  have HB := Lib.hid hb
  clear hb
  go_wp2
  go_ret
  exact ⟨b, rfl, (((Keeps.refl _ _).alloc _).alloc _).drewN _, HB.out.trans (by simp)⟩

theorem sameAns_ok (c n c2 n2 : Int) (ao ao2 no no2 : Option Addr) (cap cap2 ncap ncap2 : Nat) (ds ds2 : List UInt8) (ss tt : List ByteArray) (w : World) (hx : Bytes w (.slice ao ds.length cap) ds) (hy : Bytes w (.slice ao2 ds2.length cap2) ds2)
    (hsx : ∀ a, ao = some a → ds ≠ [] → a.spot = none) (hsy : ∀ a, ao2 = some a → ds2 ≠ [] → a.spot = none)
    (hs : Strs w (.slice no ss.length ncap) ss) (ht : Strs w (.slice no2 tt.length ncap2) tt) (hl : ss.length ≤ 140737488351232) :
    Calls Tryd.prog 22 #[ansVal c n (.slice ao ds.length cap) (.slice no ss.length ncap), ansVal c2 n2 (.slice ao2 ds2.length cap2) (.slice no2 tt.length ncap2)] w fun e w' => AnsPost w e w' (c = c2 ∧ n = n2 ∧ ds = ds2 ∧ ss = tt) := by
  by_cases q1 : c = c2
  case neg => exact sameAns_no1 c n c2 n2 ao ao2 no no2 cap cap2 ncap ncap2 ds ds2 ss tt w (by simpa using q1)
  by_cases q2 : n = n2
  case neg => subst q1; exact sameAns_no2 c n n2 ao ao2 no no2 cap cap2 ncap ncap2 ds ds2 ss tt w (by simpa using q2)
  by_cases q3 : ds = ds2
  case neg => subst q1 q2; exact sameAns_no3 c n ao ao2 no no2 cap cap2 ncap ncap2 ds ds2 ss tt w hx hy hsx hsy (by simpa using q3)
  subst q1 q2 q3
  exact sameAns_last c n ao ao2 no no2 cap cap2 ncap ncap2 ds ss tt w hx hy hsx hsy hs ht hl

/-- What WriteAnswer answers: bytes, or nothing. -/
def WriteAnsEnd (c n : Int) (ds : List UInt8) (ss : List ByteArray) (w w' : World) (v : Value) (e : Int) : Prop :=
  (¬ AnsRight c n ds.length ss ∧ e = 1) ∨ (AnsRight c n ds.length ss ∧ e = 0 ∧ w'.ownsRow w.heap.size 5 1 v (ansBytes c n ds ss).length (u8s (ansBytes c n ds ss)))
theorem writeAnswer_any (c n : Int) (ao no : Option Addr) (cap ncap : Nat) (ds : List UInt8) (ss : List ByteArray) (w : World) (hd : Bytes w (.slice ao ds.length cap) ds) (hx : Strs w (.slice no ss.length ncap) ss) :
    Calls Tryd.prog 35 #[ansVal c n (.slice ao ds.length cap) (.slice no ss.length ncap)] w fun e w' => ∃ v k, e = .returned (.tuple #[v, .int .i64 k]) ∧ WriteAnsEnd c n ds ss w w' v k ∧ Same w w' := by
  by_cases h : AnsRight c n ds.length ss
  · exact (writeAnswer_yes c n ao no cap ncap ds ss w hd hx h).mono fun e w' ⟨v, h1, h2, h3⟩ => ⟨v, 0, h1, .inr ⟨h, rfl, h2⟩, h3⟩
  · exact (writeAnswer_no c n ao no ds.length cap ncap ss w hx h).mono fun e w' ⟨h1, h3⟩ => ⟨_, 1, h1, .inl ⟨h, rfl⟩, h3⟩

theorem four_four {P : Program} {w : World} {b b2 : Nat} {u0 u1 u2 u3 v0 v1 v2 v3 x y sx sy : Value} {t ts te : TypeId}
    (h : w.heap[b]? = some (.cells #[u0, u1, u2, u3] t (0, 0))) (h2 : w.heap[b2]? = some (.cells #[v0, v1, v2, v3] t (0, 0)))
    (hx : (convert ts te x).run P w = .ok sx w) (hy : (convert ts te y).run P w = .ok sy w) :
    (convert ts te x).run P w = .ok sx w ∧ (convert ts te y).run P w = .ok sy w ∧
    w.cell? ⟨b, 0, none⟩ = some u0 ∧ w.cell? ⟨b, 1, none⟩ = some u1 ∧ w.cell? ⟨b, 2, none⟩ = some u2 ∧ w.cell? ⟨b, 3, none⟩ = some u3 ∧
    w.cell? ⟨b2, 0, none⟩ = some v0 ∧ w.cell? ⟨b2, 1, none⟩ = some v1 ∧ w.cell? ⟨b2, 2, none⟩ = some v2 ∧ w.cell? ⟨b2, 3, none⟩ = some v3 :=
  ⟨hx, hy, (cell_of_four h).1, (cell_of_four h).2.1, (cell_of_four h).2.2.1, (cell_of_four h).2.2.2, (cell_of_four h2).1, (cell_of_four h2).2.1, (cell_of_four h2).2.2.1, (cell_of_four h2).2.2.2⟩

end Go.Proofs.YtafgiljgefeefaaDoor
