/- The walk of OperApart: bytes of operations and of answers tell them apart. -/
import Derived.Test.YtickphkeeflbbaaOp2
import Derived.Test.YtickphkeeflbbaaAns2
import Derived.Test.YtickphkeeflbbaaSame10
import Derived.Test.YtickphkeeflbbaaNames10
import Derived.Test.YtickphkeeflbbaaBytes
import Derived.Deep.QuietTactic
import Derived.BigQuiet
import Derived.Deep.RegionHeld3
namespace Go.Proofs.Ytickphkeeflbbaa
open Go.RowKit
set_option linter.unusedVariables false

theorem text_inj {a b x y : List UInt8} (ha : a.length ≤ 65535) (hb : b.length ≤ 65535) (h : be a.length 2 ++ (a ++ x) = be b.length 2 ++ (b ++ y)) : a = b ∧ x = y := by
  have h1 := List.append_inj h (by rw [be_length, be_length])
  have hl : a.length = b.length := (be_inj _ _ 2 (by omega) (by omega)).1 h1.1
  exact List.append_inj h1.2 hl
theorem num_inj {m n s : Nat} {x y : List UInt8} (hm : m < 256 ^ s) (hn : n < 256 ^ s) (h : be m s ++ x = be n s ++ y) : m = n ∧ x = y := by
  have h1 := List.append_inj h (by rw [be_length, be_length])
  exact ⟨(be_inj _ _ s hm hn).1 h1.1, h1.2⟩

theorem opBytes_inj {k off n k2 off2 n2 : Int} {p t p2 t2 : ByteArray} {ds ds2 : List UInt8} (h : OpRight k off n p t ds.length) (h2 : OpRight k2 off2 n2 p2 t2 ds2.length) :
    opBytes k off n p t ds = opBytes k2 off2 n2 p2 t2 ds2 ↔ (k = k2 ∧ p = p2 ∧ t = t2 ∧ off = off2 ∧ n = n2 ∧ ds = ds2) := by
  obtain ⟨a1, a2, a3, a4, ⟨a5, a6⟩, ⟨a7, a8⟩, a9⟩ := h
  obtain ⟨b1, b2, b3, b4, ⟨b5, b6⟩, ⟨b7, b8⟩, b9⟩ := h2
  constructor
  · intro e
    unfold opBytes at e
    simp only [List.nil_append, List.append_assoc] at e
    obtain ⟨e1, e⟩ := num_inj (by omega) (by omega) e
    obtain ⟨e2, e⟩ := num_inj (by omega) (by omega) e
    obtain ⟨e3, e⟩ := num_inj (by omega) (by omega) e
    have hp := sb_length p
    have ht := sb_length t
    have hp2 := sb_length p2
    have ht2 := sb_length t2
    obtain ⟨e4, e⟩ := text_inj (by omega) (by omega) e
    obtain ⟨e5, e⟩ := text_inj (by omega) (by omega) e
    obtain ⟨_, e6⟩ := num_inj (by omega) (by omega) e
    exact ⟨by omega, sb_inj e4, sb_inj e5, by omega, by omega, e6⟩
  · rintro ⟨rfl, rfl, rfl, rfl, rfl, rfl⟩
    rfl

theorem texts_inj : ∀ {ss tt : List ByteArray}, (∀ s ∈ ss, NameOk s) → (∀ s ∈ tt, NameOk s) → ss.length = tt.length → texts ss = texts tt → ss = tt
  | [], [], _, _, _, _ => rfl
  | [], _ :: _, _, _, h, _ => by simp at h
  | _ :: _, [], _, _, h, _ => by simp at h
  | s :: r, t :: q, hs, ht, hl, h => by
    have h1 := (hs s (by simp)).2
    have h2 := (ht t (by simp)).2
    have l1 := sb_length s
    have l2 := sb_length t
    simp only [texts, List.append_assoc] at h
    obtain ⟨e1, e2⟩ := text_inj (by omega) (by omega) h
    rw [sb_inj e1, texts_inj (fun x hx => hs x (by simp [hx])) (fun x hx => ht x (by simp [hx])) (by simpa using hl) e2]

theorem ansBytes_inj {c n c2 n2 : Int} {ds ds2 : List UInt8} {ss tt : List ByteArray} (h : AnsRight c n ds.length ss) (h2 : AnsRight c2 n2 ds2.length tt) :
    ansBytes c n ds ss = ansBytes c2 n2 ds2 tt ↔ (c = c2 ∧ n = n2 ∧ ds = ds2 ∧ ss = tt) := by
  obtain ⟨⟨a1, a2⟩, ⟨a3, a4⟩, a5, a6, a7⟩ := h
  obtain ⟨⟨b1, b2⟩, ⟨b3, b4⟩, b5, b6, b7⟩ := h2
  constructor
  · intro e
    unfold ansBytes ansHead at e
    simp only [List.nil_append, List.append_assoc] at e
    obtain ⟨e1, e⟩ := num_inj (by omega) (by omega) e
    obtain ⟨e2, e⟩ := num_inj (by omega) (by omega) e
    obtain ⟨e3, e⟩ := text_inj (by omega) (by omega) e
    obtain ⟨e4, e⟩ := num_inj (by omega) (by omega) e
    exact ⟨by omega, by omega, e3, texts_inj a7 b7 e4 e⟩
  · rintro ⟨rfl, rfl, rfl, rfl⟩
    rfl

theorem six_six {P : Program} {w : World} {b b2 : Nat} {u0 u1 u2 u3 u4 u5 v0 v1 v2 v3 v4 v5 x y sx sy : Value} {t ts te : TypeId}
    (h : w.heap[b]? = some (.cells #[u0, u1, u2, u3, u4, u5] t (0, 0))) (h2 : w.heap[b2]? = some (.cells #[v0, v1, v2, v3, v4, v5] t (0, 0)))
    (hx : (convert ts te x).run P w = .ok sx w) (hy : (convert ts te y).run P w = .ok sy w) :
    (convert ts te x).run P w = .ok sx w ∧ (convert ts te y).run P w = .ok sy w ∧
    w.cell? ⟨b, 0, none⟩ = some u0 ∧ w.cell? ⟨b, 1, none⟩ = some u1 ∧ w.cell? ⟨b, 2, none⟩ = some u2 ∧ w.cell? ⟨b, 3, none⟩ = some u3 ∧ w.cell? ⟨b, 4, none⟩ = some u4 ∧ w.cell? ⟨b, 5, none⟩ = some u5 ∧
    w.cell? ⟨b2, 0, none⟩ = some v0 ∧ w.cell? ⟨b2, 1, none⟩ = some v1 ∧ w.cell? ⟨b2, 2, none⟩ = some v2 ∧ w.cell? ⟨b2, 3, none⟩ = some v3 ∧ w.cell? ⟨b2, 4, none⟩ = some v4 ∧ w.cell? ⟨b2, 5, none⟩ = some v5 :=
  ⟨hx, hy, (cell_of_six h).1, (cell_of_six h).2.1, (cell_of_six h).2.2.1, (cell_of_six h).2.2.2.1, (cell_of_six h).2.2.2.2.1, (cell_of_six h).2.2.2.2.2,
    (cell_of_six h2).1, (cell_of_six h2).2.1, (cell_of_six h2).2.2.1, (cell_of_six h2).2.2.2.1, (cell_of_six h2).2.2.2.2.1, (cell_of_six h2).2.2.2.2.2⟩

/-- What Write answers: bytes, or nothing. -/
def WriteEnd (k off n : Int) (p t : ByteArray) (ds : List UInt8) (w w' : World) (v : Value) (e : Int) : Prop :=
  (¬ OpRight k off n p t ds.length ∧ e = 1) ∨ (OpRight k off n p t ds.length ∧ e = 0 ∧ w'.ownsRow w.heap.size 5 1 v (opBytes k off n p t ds).length (u8s (opBytes k off n p t ds)))
theorem write_any (k off n : Int) (p t : ByteArray) (ao : Option Addr) (cap : Nat) (ds : List UInt8) (w : World) (hx : Bytes w (.slice ao ds.length cap) ds) :
    Calls Try.prog 10 #[opVal k off n p t (.slice ao ds.length cap)] w fun e w' => ∃ v c, e = .returned (.tuple #[v, .int .i64 c]) ∧ WriteEnd k off n p t ds w w' v c ∧ Same w w' := by
  by_cases h : OpRight k off n p t ds.length
  · exact (write_yes k off n p t ao cap ds w h hx).mono fun e w' ⟨v, h1, h2, h3⟩ => ⟨v, 0, h1, .inr ⟨h, rfl, h2⟩, h3⟩
  · exact (write_no k off n p t ao ds.length cap w h).mono fun e w' ⟨h1, h3⟩ => ⟨_, 1, h1, .inl ⟨h, rfl⟩, h3⟩

set_option maxRecDepth 100000 in
set_option maxHeartbeats 6400000 in
theorem apart_ok (k off n k2 off2 n2 : Int) (p t p2 t2 : ByteArray) (ao ao2 : Option Addr) (cap cap2 : Nat) (ds ds2 : List UInt8) (w : World) (hx : Bytes w (.slice ao ds.length cap) ds) (hy : Bytes w (.slice ao2 ds2.length cap2) ds2)
    (hsx : ∀ a, ao = some a → ds ≠ [] → a.spot = none) (hsy : ∀ a, ao2 = some a → ds2 ≠ [] → a.spot = none) :
    Calls Try.prog 21 #[opVal k off n p t (.slice ao ds.length cap), opVal k2 off2 n2 p2 t2 (.slice ao2 ds2.length cap2)] w fun e w' => e = .returned (.bool true) ∧ Same w w' := by
  have HX := Lib.hid hx
  have HY := Lib.hid hy
  have HSX := Lib.hid hsx
  have HSY := Lib.hid hsy
  clear hx hy hsx hsy
  go_enter Try.func21, Try.ntmps21
  go_wp2_with fail
  ((with_reducible refine (great_op k off n p t ao ds.length cap _).mono ?_); rintro e w1 ⟨rfl, hk1⟩)
  have ho1 : w1.heap[w.heap.size]? = some (.cells #[.int .i64 k, .string p, .string t, .int .i64 off, .int .i64 n, .slice ao ds.length cap] 25 (0, 0)) := hk1.obj (((Keeps.refl (fun _ => False) _).alloc _).obj (heap_alloc_new w _) (fun e => e)) (fun e => e)
  have hq1 : w1.heap[w.heap.size + 1]? = some (.cells #[.int .i64 k2, .string p2, .string t2, .int .i64 off2, .int .i64 n2, .slice ao2 ds2.length cap2] 25 (0, 0)) := hk1.obj (by have := heap_alloc_new (w.alloc (.cells #[.int .i64 k, .string p, .string t, .int .i64 off, .int .i64 n, .slice ao ds.length cap] 25 (0, 0))) (.cells #[.int .i64 k2, .string p2, .string t2, .int .i64 off2, .int .i64 n2, .slice ao2 ds2.length cap2] 25 (0, 0)); simpa using this) (fun e => e)
  have hk1' : Same w w1 := (((Keeps.refl _ _).alloc _).alloc _).trans hk1 (fun _ _ e => e)
  have HO1 := Lib.hid ho1
  have HQ1 := Lib.hid hq1
  have HK1 := Lib.hid hk1'
  clear hk1 hk1'
  by_cases q1 : 400 < p.size ∨ 400 < t.size ∨ 400 < ds.length
  · rw [decide_eq_true q1]
    clear q1 ho1 hq1
    go_wp2
    go_ret
    exact ⟨rfl, HK1.out⟩
  rw [decide_eq_false q1]
  obtain ⟨b0, b1, b2, b3, b4, b5⟩ := cell_of_six hq1
  clear ho1 hq1 q1
  go_wp2_with fail
  ((with_reducible refine (great_op k2 off2 n2 p2 t2 ao2 ds2.length cap2 _).mono ?_); rintro e w2 ⟨rfl, hk2⟩)
  have ho2 := hk2.obj HO1.out (fun e => e)
  have HO2 := Lib.hid ho2
  have HQ2 := Lib.hid (hk2.obj HQ1.out (fun e => e))
  have HK2 : Hid (Same w w2) := Lib.hid (HK1.out.trans hk2 (fun _ _ e => e))
  clear hk2 b0 b1 b2 b3 b4 b5
  by_cases q2 : 400 < p2.size ∨ 400 < t2.size ∨ 400 < ds2.length
  · rw [decide_eq_true q2]
    clear q2 ho2
    go_wp2
    go_ret
    exact ⟨rfl, HK2.out⟩
  rw [decide_eq_false q2]
  obtain ⟨a0, a1, a2, a3, a4, a5⟩ := cell_of_six ho2
  clear ho2 q2
  go_wp2_with fail
  ((with_reducible refine (write_any k off n p t ao cap ds _ (HX.out.same HK2.out)).mono ?_); rintro e w3 ⟨v1, c1, rfl, hr1, hk3⟩)
  have HO3 := Lib.hid (hk3.obj HO2.out (fun e => e))
  have hq3 := hk3.obj HQ2.out (fun e => e)
  have HQ3 := Lib.hid hq3
  have HK3 : Hid (Same w w3) := Lib.hid (HK2.out.trans hk3 (fun _ _ e => e))
  have HR1 := Lib.hid hr1
  clear hk3 a0 a1 a2 a3 a4 a5 hr1
  obtain ⟨b0, b1, b2, b3, b4, b5⟩ := cell_of_six hq3
  clear hq3
  go_wp2_with fail
  ((with_reducible refine (write_any k2 off2 n2 p2 t2 ao2 cap2 ds2 _ (HY.out.same HK3.out)).mono ?_); rintro e w4 ⟨v2, c2, rfl, hr2, hk4⟩)
  have ho4 := hk4.obj HO3.out (fun e => e)
  have hq4 := hk4.obj HQ3.out (fun e => e)
  have HK4 : Hid (Same w w4) := Lib.hid (HK3.out.trans hk4 (fun _ _ e => e))
  have HK34 := Lib.hid hk4
  have HR2 := Lib.hid hr2
  clear hk4 b0 b1 b2 b3 b4 b5 hr2
  rcases HR1.out with ⟨n1, rfl⟩ | ⟨n1, rfl, hown1⟩
  · clear n1 ho4 hq4
    go_wp2
    go_quiet (fail)
    go_wp2
    go_ret
    exact ⟨rfl, HK4.out.drewN _⟩
  rcases HR2.out with ⟨n2, rfl⟩ | ⟨m1, rfl, hown2⟩
  · clear n1 n2 ho4 hq4 hown1
    go_wp2
    go_quiet (fail)
    go_wp2
    go_ret
    exact ⟨rfl, HK4.out.drewN _⟩
  have hE := opBytes_inj n1 m1
  have HE := Lib.hid hE
  have hown1' := own_keeps HK34.out hown1 (fun _ _ e => e)
  have hd : Same w4 w4.drew := (Keeps.refl _ _).drew
  have c1 := run_string_own (P := Try.prog) 23 9 5 (own_keeps hd hown1' (fun _ _ e => e)) Try.underlying23 Try.underlying5 Try.underlying9
  have c2 := run_string_own (P := Try.prog) 23 9 5 (own_keeps hd hown2 (fun _ _ e => e)) Try.underlying23 Try.underlying5 Try.underlying9
  have HOW1 := Lib.hid hown1'
  have HOW2 := Lib.hid hown2
  have HS := Lib.hid (six_six (hd.obj ho4 (fun e => e)) (hd.obj hq4 (fun e => e)) c1 c2)
  have HO4 := Lib.hid ho4
  have HQ4 := Lib.hid hq4
  clear hE n1 m1 hown1 hown1' hown2 ho4 hq4 c1 c2 hd
  go_wp2
  go_region_held3 (fun w' => (convert 23 9 v1).run Try.prog w' = .ok (.string ⟨(opBytes k off n p t ds).toArray⟩) w' ∧ (convert 23 9 v2).run Try.prog w' = .ok (.string ⟨(opBytes k2 off2 n2 p2 t2 ds2).toArray⟩) w' ∧
      w'.cell? ⟨w.heap.size, 0, none⟩ = some (.int .i64 k) ∧ w'.cell? ⟨w.heap.size, 1, none⟩ = some (.string p) ∧ w'.cell? ⟨w.heap.size, 2, none⟩ = some (.string t) ∧ w'.cell? ⟨w.heap.size, 3, none⟩ = some (.int .i64 off) ∧ w'.cell? ⟨w.heap.size, 4, none⟩ = some (.int .i64 n) ∧ w'.cell? ⟨w.heap.size, 5, none⟩ = some (.slice ao ds.length cap) ∧
      w'.cell? ⟨w.heap.size + 1, 0, none⟩ = some (.int .i64 k2) ∧ w'.cell? ⟨w.heap.size + 1, 1, none⟩ = some (.string p2) ∧ w'.cell? ⟨w.heap.size + 1, 2, none⟩ = some (.string t2) ∧ w'.cell? ⟨w.heap.size + 1, 3, none⟩ = some (.int .i64 off2) ∧ w'.cell? ⟨w.heap.size + 1, 4, none⟩ = some (.int .i64 n2) ∧ w'.cell? ⟨w.heap.size + 1, 5, none⟩ = some (.slice ao2 ds2.length cap2))
    (first
      | exact HS.out
      | exact six_six (hk5.obj HO4.out (fun e => e)) (hk5.obj HQ4.out (fun e => e)) d1 d2)
    (first
      | ((with_reducible refine (sameOp_ok k off n k2 off2 n2 p t p2 t2 ao ao2 cap cap2 ds ds2 _ (HX.out.same HK4.out.drew) (HY.out.same HK4.out.drew) HSX.out HSY.out).mono ?_); rintro e w5 ⟨rfl, hk5⟩
         have d1 := run_string_own (P := Try.prog) 23 9 5 (own_keeps hk5 (own_keeps ((Keeps.refl (fun _ => False) w4).drew) HOW1.out (fun _ _ e => e)) (fun _ _ e => e)) Try.underlying23 Try.underlying5 Try.underlying9
         have d2 := run_string_own (P := Try.prog) 23 9 5 (own_keeps hk5 (own_keeps ((Keeps.refl (fun _ => False) w4).drew) HOW2.out (fun _ _ e => e)) (fun _ _ e => e)) Try.underlying23 Try.underlying5 Try.underlying9))
  all_goals
    have HK5 : Hid (Same w4.drew w5) := Lib.hid hk5
    clear hk5 d1 d2
    go_wp2
    go_ret
    refine ⟨congrArg (fun b => Ending.returned (Value.bool b)) (show ((opBytes k off n p t ds == opBytes k2 off2 n2 p2 t2 ds2) == (decide (k = k2) && (decide (p = p2) && (decide (t = t2) && (decide (off = off2) && (decide (n = n2) && decide (ds = ds2))))))) = true from ?_), (HK4.out.drew).trans HK5.out (fun _ _ e => e)⟩
    rw [beq_iff_eq, Bool.eq_iff_iff, beq_iff_eq, HE.out]
    simp

end Go.Proofs.Ytickphkeeflbbaa
