/- The document's comparing of answers; the walk of OperApart's second half. -/
import Derived.Test.YtickphkeeflbbaaApart
namespace Go.Proofs.Ytickphkeeflbbaa
open Go.RowKit
set_option linter.unusedVariables false

/-- What Same of two answers tells. -/
def AnsPost (w : World) (e : Ending) (w' : World) (q : Prop) : Prop := ∃ b, e = .returned (.bool b) ∧ Same w w' ∧ (b = true ↔ q)
theorem AnsPost.no {w w' : World} {q : Prop} (h : ¬ q) (k : Same w w') : AnsPost w (.returned (.bool false)) w' q := ⟨false, rfl, k, ⟨fun e => (by cases e), fun e => absurd e h⟩⟩

set_option maxRecDepth 100000 in
set_option maxHeartbeats 3200000 in
theorem sameAns_no1 (c n c2 n2 : Int) (ao ao2 no no2 : Option Addr) (cap cap2 ncap ncap2 : Nat) (ds ds2 : List UInt8) (ss tt : List ByteArray) (w : World) (q : (c == c2) = false) :
    Calls Try.prog 20 #[ansVal c n (.slice ao ds.length cap) (.slice no ss.length ncap), ansVal c2 n2 (.slice ao2 ds2.length cap2) (.slice no2 tt.length ncap2)] w fun e w' => AnsPost w e w' (c = c2 ∧ n = n2 ∧ ds = ds2 ∧ ss = tt) := by
  have q2 : ¬ c = c2 := by simpa using q
  have HQ := Lib.hid q2
  go_enter Try.func20, Try.ntmps20
  go_wp2
  go_ret
  exact AnsPost.no (fun h => HQ.out h.1) (((Keeps.refl _ _).alloc _).alloc _)

set_option maxRecDepth 100000 in
set_option maxHeartbeats 3200000 in
theorem sameAns_no2 (c n n2 : Int) (ao ao2 no no2 : Option Addr) (cap cap2 ncap ncap2 : Nat) (ds ds2 : List UInt8) (ss tt : List ByteArray) (w : World) (q : (n == n2) = false) :
    Calls Try.prog 20 #[ansVal c n (.slice ao ds.length cap) (.slice no ss.length ncap), ansVal c n2 (.slice ao2 ds2.length cap2) (.slice no2 tt.length ncap2)] w fun e w' => AnsPost w e w' (c = c ∧ n = n2 ∧ ds = ds2 ∧ ss = tt) := by
  have q2 : ¬ n = n2 := by simpa using q
  have HQ := Lib.hid q2
  go_enter Try.func20, Try.ntmps20
  go_wp2
  go_ret
  exact AnsPost.no (fun h => HQ.out h.2.1) (((Keeps.refl _ _).alloc _).alloc _)

set_option maxRecDepth 100000 in
set_option maxHeartbeats 3200000 in
theorem sameAns_no3 (c n : Int) (ao ao2 no no2 : Option Addr) (cap cap2 ncap ncap2 : Nat) (ds ds2 : List UInt8) (ss tt : List ByteArray) (w : World) (hx : Bytes w (.slice ao ds.length cap) ds) (hy : Bytes w (.slice ao2 ds2.length cap2) ds2)
    (hsx : ∀ a, ao = some a → ds ≠ [] → a.spot = none) (hsy : ∀ a, ao2 = some a → ds2 ≠ [] → a.spot = none) (q : (ds == ds2) = false) :
    Calls Try.prog 20 #[ansVal c n (.slice ao ds.length cap) (.slice no ss.length ncap), ansVal c n (.slice ao2 ds2.length cap2) (.slice no2 tt.length ncap2)] w fun e w' => AnsPost w e w' (c = c ∧ n = n ∧ ds = ds2 ∧ ss = tt) := by
  have hk : Same w ((w.alloc (.cells #[.int .i64 c, .int .i64 n, .slice ao ds.length cap, .slice no ss.length ncap] 41 (0, 0))).alloc (.cells #[.int .i64 c, .int .i64 n, .slice ao2 ds2.length cap2, .slice no2 tt.length ncap2] 41 (0, 0))) := ((Keeps.refl _ _).alloc _).alloc _
  have c1 := run_string' (P := Try.prog) (hx.same hk) hsx 23 9 5 Try.underlying23 Try.underlying5 Try.underlying9
  have c2 := run_string' (P := Try.prog) (hy.same hk) hsy 23 9 5 Try.underlying23 Try.underlying5 Try.underlying9
  have q2 : ¬ ds = ds2 := by simpa using q
  have HQ := Lib.hid q2
  clear hk hx hy hsx hsy
  go_enter Try.func20, Try.ntmps20
  go_wp2
  go_ret
  exact AnsPost.no (fun h => HQ.out h.2.2.1) (((Keeps.refl _ _).alloc _).alloc _)

set_option maxRecDepth 100000 in
set_option maxHeartbeats 3200000 in
theorem sameAns_last (c n : Int) (ao ao2 no no2 : Option Addr) (cap cap2 ncap ncap2 : Nat) (ds : List UInt8) (ss tt : List ByteArray) (w : World) (hx : Bytes w (.slice ao ds.length cap) ds) (hy : Bytes w (.slice ao2 ds.length cap2) ds)
    (hsx : ∀ a, ao = some a → ds ≠ [] → a.spot = none) (hsy : ∀ a, ao2 = some a → ds ≠ [] → a.spot = none)
    (hs : Strs w (.slice no ss.length ncap) ss) (ht : Strs w (.slice no2 tt.length ncap2) tt) (hl : ss.length ≤ 140737488351232) :
    Calls Try.prog 20 #[ansVal c n (.slice ao ds.length cap) (.slice no ss.length ncap), ansVal c n (.slice ao2 ds.length cap2) (.slice no2 tt.length ncap2)] w fun e w' => AnsPost w e w' (c = c ∧ n = n ∧ ds = ds ∧ ss = tt) := by
  have hk : Same w ((w.alloc (.cells #[.int .i64 c, .int .i64 n, .slice ao ds.length cap, .slice no ss.length ncap] 41 (0, 0))).alloc (.cells #[.int .i64 c, .int .i64 n, .slice ao2 ds.length cap2, .slice no2 tt.length ncap2] 41 (0, 0))) := ((Keeps.refl _ _).alloc _).alloc _
  have c1 := run_string' (P := Try.prog) (hx.same hk) hsx 23 9 5 Try.underlying23 Try.underlying5 Try.underlying9
  have c2 := run_string' (P := Try.prog) (hy.same hk) hsy 23 9 5 Try.underlying23 Try.underlying5 Try.underlying9
  have HS := Lib.hid (hs.same hk)
  have HT := Lib.hid (ht.same hk)
  clear hk hx hy hsx hsy hs ht
  go_enter Try.func20, Try.ntmps20
  go_wp2_with fail
  ((with_reducible refine (same_texts_any no no2 ncap ncap2 ss tt _ HS.out HT.out hl).mono ?_); rintro e w1 ⟨b, rfl, ⟨m, rfl⟩, hb⟩)
  have HB := Lib.hid hb
  clear hb
  go_wp2
  go_ret
  exact ⟨b, rfl, (((Keeps.refl _ _).alloc _).alloc _).drewN _, HB.out.trans (by simp)⟩

theorem sameAns_ok (c n c2 n2 : Int) (ao ao2 no no2 : Option Addr) (cap cap2 ncap ncap2 : Nat) (ds ds2 : List UInt8) (ss tt : List ByteArray) (w : World) (hx : Bytes w (.slice ao ds.length cap) ds) (hy : Bytes w (.slice ao2 ds2.length cap2) ds2)
    (hsx : ∀ a, ao = some a → ds ≠ [] → a.spot = none) (hsy : ∀ a, ao2 = some a → ds2 ≠ [] → a.spot = none)
    (hs : Strs w (.slice no ss.length ncap) ss) (ht : Strs w (.slice no2 tt.length ncap2) tt) (hl : ss.length ≤ 140737488351232) :
    Calls Try.prog 20 #[ansVal c n (.slice ao ds.length cap) (.slice no ss.length ncap), ansVal c2 n2 (.slice ao2 ds2.length cap2) (.slice no2 tt.length ncap2)] w fun e w' => AnsPost w e w' (c = c2 ∧ n = n2 ∧ ds = ds2 ∧ ss = tt) := by
  by_cases q1 : c = c2
  case neg => exact sameAns_no1 c n c2 n2 ao ao2 no no2 cap cap2 ncap ncap2 ds ds2 ss tt w (by simpa using q1)
  by_cases q2 : n = n2
  case neg => subst q1; exact sameAns_no2 c n n2 ao ao2 no no2 cap cap2 ncap ncap2 ds ds2 ss tt w (by simpa using q2)
  by_cases q3 : ds = ds2
  case neg => subst q1 q2; exact sameAns_no3 c n ao ao2 no no2 cap cap2 ncap ncap2 ds ds2 ss tt w hx hy hsx hsy (by simpa using q3)
  subst q1 q2 q3
  exact sameAns_last c n ao ao2 no no2 cap cap2 ncap ncap2 ds ss tt w hx hy hsx hsy hs ht hl

/-- What WriteAnswer answers: bytes, or nothing. -/
def WriteAnsEnd (c n : Int) (ds : List UInt8) (ss : List ByteArray) (w w' : World) (v : Value) (e : Int) : Prop :=
  (¬ AnsRight c n ds.length ss ∧ e = 1) ∨ (AnsRight c n ds.length ss ∧ e = 0 ∧ w'.ownsRow w.heap.size 5 1 v (ansBytes c n ds ss).length (u8s (ansBytes c n ds ss)))
theorem writeAnswer_any (c n : Int) (ao no : Option Addr) (cap ncap : Nat) (ds : List UInt8) (ss : List ByteArray) (w : World) (hd : Bytes w (.slice ao ds.length cap) ds) (hx : Strs w (.slice no ss.length ncap) ss) :
    Calls Try.prog 16 #[ansVal c n (.slice ao ds.length cap) (.slice no ss.length ncap)] w fun e w' => ∃ v k, e = .returned (.tuple #[v, .int .i64 k]) ∧ WriteAnsEnd c n ds ss w w' v k ∧ Same w w' := by
  by_cases h : AnsRight c n ds.length ss
  · exact (writeAnswer_yes c n ao no cap ncap ds ss w hd hx h).mono fun e w' ⟨v, h1, h2, h3⟩ => ⟨v, 0, h1, .inr ⟨h, rfl, h2⟩, h3⟩
  · exact (writeAnswer_no c n ao no ds.length cap ncap ss w hx h).mono fun e w' ⟨h1, h3⟩ => ⟨_, 1, h1, .inl ⟨h, rfl⟩, h3⟩

theorem four_four {P : Program} {w : World} {b b2 : Nat} {u0 u1 u2 u3 v0 v1 v2 v3 x y sx sy : Value} {t ts te : TypeId}
    (h : w.heap[b]? = some (.cells #[u0, u1, u2, u3] t (0, 0))) (h2 : w.heap[b2]? = some (.cells #[v0, v1, v2, v3] t (0, 0)))
    (hx : (convert ts te x).run P w = .ok sx w) (hy : (convert ts te y).run P w = .ok sy w) :
    (convert ts te x).run P w = .ok sx w ∧ (convert ts te y).run P w = .ok sy w ∧
    w.cell? ⟨b, 0, none⟩ = some u0 ∧ w.cell? ⟨b, 1, none⟩ = some u1 ∧ w.cell? ⟨b, 2, none⟩ = some u2 ∧ w.cell? ⟨b, 3, none⟩ = some u3 ∧
    w.cell? ⟨b2, 0, none⟩ = some v0 ∧ w.cell? ⟨b2, 1, none⟩ = some v1 ∧ w.cell? ⟨b2, 2, none⟩ = some v2 ∧ w.cell? ⟨b2, 3, none⟩ = some v3 :=
  ⟨hx, hy, (cell_of_four h).1, (cell_of_four h).2.1, (cell_of_four h).2.2.1, (cell_of_four h).2.2.2, (cell_of_four h2).1, (cell_of_four h2).2.1, (cell_of_four h2).2.2.1, (cell_of_four h2).2.2.2⟩

set_option maxRecDepth 100000 in
set_option maxHeartbeats 3200000 in
theorem answers_great (c n c2 n2 : Int) (ao ao2 no no2 : Option Addr) (cap cap2 ncap ncap2 : Nat) (ds ds2 : List UInt8) (ss tt : List ByteArray) (w : World) (h : (500 : Int) < (ds.length : Int) ∨ ((ds.length : Int) ≤ 500 ∧ (500 : Int) < (ds2.length : Int)) ∨ ((ds.length : Int) ≤ 500 ∧ (ds2.length : Int) ≤ 500 ∧ (25 : Int) < (ss.length : Int)) ∨ ((ds.length : Int) ≤ 500 ∧ (ds2.length : Int) ≤ 500 ∧ (ss.length : Int) ≤ 25 ∧ (25 : Int) < (tt.length : Int))) :
    Calls Try.prog 22 #[ansVal c n (.slice ao ds.length cap) (.slice no ss.length ncap), ansVal c2 n2 (.slice ao2 ds2.length cap2) (.slice no2 tt.length ncap2)] w fun e w' => e = .returned (.bool true) ∧ Same w w' := by
  rcases h with h1 | ⟨h1, h2⟩ | ⟨h1, h2, h3⟩ | ⟨h1, h2, h3, h4⟩
  · go_enter Try.func22, Try.ntmps22
    go_wp2
    go_ret
    exact ⟨rfl, ((Keeps.refl _ _).alloc _).alloc _⟩
  · go_enter Try.func22, Try.ntmps22
    go_wp2
    go_ret
    exact ⟨rfl, ((Keeps.refl _ _).alloc _).alloc _⟩
  · go_enter Try.func22, Try.ntmps22
    go_wp2
    go_ret
    exact ⟨rfl, ((Keeps.refl _ _).alloc _).alloc _⟩
  · go_enter Try.func22, Try.ntmps22
    go_wp2
    go_ret
    exact ⟨rfl, ((Keeps.refl _ _).alloc _).alloc _⟩

set_option maxRecDepth 100000 in
set_option maxHeartbeats 6400000 in
theorem answers_short (c n c2 n2 : Int) (ao ao2 no no2 : Option Addr) (cap cap2 ncap ncap2 : Nat) (ds ds2 : List UInt8) (ss tt : List ByteArray) (w : World) (hx : Bytes w (.slice ao ds.length cap) ds) (hy : Bytes w (.slice ao2 ds2.length cap2) ds2)
    (hsx : ∀ a, ao = some a → ds ≠ [] → a.spot = none) (hsy : ∀ a, ao2 = some a → ds2 ≠ [] → a.spot = none)
    (hs : Strs w (.slice no ss.length ncap) ss) (ht : Strs w (.slice no2 tt.length ncap2) tt) (l1 : (ds.length : Int) ≤ 500) (l2 : (ds2.length : Int) ≤ 500) (l3 : (ss.length : Int) ≤ 25) (l4 : (tt.length : Int) ≤ 25) :
    Calls Try.prog 22 #[ansVal c n (.slice ao ds.length cap) (.slice no ss.length ncap), ansVal c2 n2 (.slice ao2 ds2.length cap2) (.slice no2 tt.length ncap2)] w fun e w' => e = .returned (.bool true) ∧ Same w w' := by
  have HX := Lib.hid hx
  have HY := Lib.hid hy
  have HSX := Lib.hid hsx
  have HSY := Lib.hid hsy
  have HS := Lib.hid hs
  have HT := Lib.hid ht
  have ho1 : ((w.alloc (.cells #[.int .i64 c, .int .i64 n, .slice ao ds.length cap, .slice no ss.length ncap] 41 (0, 0))).alloc (.cells #[.int .i64 c2, .int .i64 n2, .slice ao2 ds2.length cap2, .slice no2 tt.length ncap2] 41 (0, 0))).heap[w.heap.size]? = some (.cells #[.int .i64 c, .int .i64 n, .slice ao ds.length cap, .slice no ss.length ncap] 41 (0, 0)) := ((Keeps.refl (fun _ => False) _).alloc _).obj (heap_alloc_new w _) (fun e => e)
  have hq1 : ((w.alloc (.cells #[.int .i64 c, .int .i64 n, .slice ao ds.length cap, .slice no ss.length ncap] 41 (0, 0))).alloc (.cells #[.int .i64 c2, .int .i64 n2, .slice ao2 ds2.length cap2, .slice no2 tt.length ncap2] 41 (0, 0))).heap[w.heap.size + 1]? = some (.cells #[.int .i64 c2, .int .i64 n2, .slice ao2 ds2.length cap2, .slice no2 tt.length ncap2] 41 (0, 0)) := by have := heap_alloc_new (w.alloc (.cells #[.int .i64 c, .int .i64 n, .slice ao ds.length cap, .slice no ss.length ncap] 41 (0, 0))) (.cells #[.int .i64 c2, .int .i64 n2, .slice ao2 ds2.length cap2, .slice no2 tt.length ncap2] 41 (0, 0)); simpa using this
  have hk1 : Same w ((w.alloc (.cells #[.int .i64 c, .int .i64 n, .slice ao ds.length cap, .slice no ss.length ncap] 41 (0, 0))).alloc (.cells #[.int .i64 c2, .int .i64 n2, .slice ao2 ds2.length cap2, .slice no2 tt.length ncap2] 41 (0, 0))) := ((Keeps.refl _ _).alloc _).alloc _
  have HO1 := Lib.hid ho1
  have HQ1 := Lib.hid hq1
  have HK1 := Lib.hid hk1
  clear hx hy hsx hsy hs ht ho1 hq1 hk1
  go_enter Try.func22, Try.ntmps22
  go_wp2_with fail
  ((with_reducible refine (writeAnswer_any c n ao no cap ncap ds ss _ (HX.out.same HK1.out) (HS.out.same HK1.out)).mono ?_); rintro e w3 ⟨v1, e1, rfl, hr1, hk3⟩)
  have HO3 := Lib.hid (hk3.obj HO1.out (fun e => e))
  have hq3 := hk3.obj HQ1.out (fun e => e)
  have HQ3 := Lib.hid hq3
  have HK3 : Hid (Same w w3) := Lib.hid (HK1.out.trans hk3 (fun _ _ e => e))
  have HR1 := Lib.hid hr1
  clear hk3 hr1
  obtain ⟨b0, b1, b2, b3⟩ := cell_of_four hq3
  clear hq3
  go_wp2_with fail
  ((with_reducible refine (writeAnswer_any c2 n2 ao2 no2 cap2 ncap2 ds2 tt _ (HY.out.same HK3.out) (HT.out.same HK3.out)).mono ?_); rintro e w4 ⟨v2, e2, rfl, hr2, hk4⟩)
  have ho4 := hk4.obj HO3.out (fun e => e)
  have hq4 := hk4.obj HQ3.out (fun e => e)
  have HK4 : Hid (Same w w4) := Lib.hid (HK3.out.trans hk4 (fun _ _ e => e))
  have HK34 := Lib.hid hk4
  have HR2 := Lib.hid hr2
  clear hk4 b0 b1 b2 b3 hr2
  rcases HR1.out with ⟨n1, rfl⟩ | ⟨n1, rfl, hown1⟩
  · clear n1 ho4 hq4
    go_wp2
    go_quiet (fail)
    go_wp2
    go_ret
    exact ⟨rfl, HK4.out.drewN _⟩
  rcases HR2.out with ⟨n2, rfl⟩ | ⟨m1, rfl, hown2⟩
  · clear n1 n2 ho4 hq4 hown1
    go_wp2
    go_quiet (fail)
    go_wp2
    go_ret
    exact ⟨rfl, HK4.out.drewN _⟩
  have hE := ansBytes_inj n1 m1
  have HE := Lib.hid hE
  have hown1' := own_keeps HK34.out hown1 (fun _ _ e => e)
  have hd : Same w4 w4.drew := (Keeps.refl _ _).drew
  have c1 := run_string_own (P := Try.prog) 23 9 5 (own_keeps hd hown1' (fun _ _ e => e)) Try.underlying23 Try.underlying5 Try.underlying9
  have c2 := run_string_own (P := Try.prog) 23 9 5 (own_keeps hd hown2 (fun _ _ e => e)) Try.underlying23 Try.underlying5 Try.underlying9
  have HOW1 := Lib.hid hown1'
  have HOW2 := Lib.hid hown2
  have HSS := Lib.hid (four_four (hd.obj ho4 (fun e => e)) (hd.obj hq4 (fun e => e)) c1 c2)
  have HO4 := Lib.hid ho4
  have HQ4 := Lib.hid hq4
  clear hE n1 m1 hown1 hown1' hown2 ho4 hq4 c1 c2 hd
  go_wp2
  go_region_held3 (fun w' => (convert 23 9 v1).run Try.prog w' = .ok (.string ⟨(ansBytes c n ds ss).toArray⟩) w' ∧ (convert 23 9 v2).run Try.prog w' = .ok (.string ⟨(ansBytes c2 n2 ds2 tt).toArray⟩) w' ∧
      w'.cell? ⟨w.heap.size, 0, none⟩ = some (.int .i64 c) ∧ w'.cell? ⟨w.heap.size, 1, none⟩ = some (.int .i64 n) ∧ w'.cell? ⟨w.heap.size, 2, none⟩ = some (.slice ao ds.length cap) ∧ w'.cell? ⟨w.heap.size, 3, none⟩ = some (.slice no ss.length ncap) ∧
      w'.cell? ⟨w.heap.size + 1, 0, none⟩ = some (.int .i64 c2) ∧ w'.cell? ⟨w.heap.size + 1, 1, none⟩ = some (.int .i64 n2) ∧ w'.cell? ⟨w.heap.size + 1, 2, none⟩ = some (.slice ao2 ds2.length cap2) ∧ w'.cell? ⟨w.heap.size + 1, 3, none⟩ = some (.slice no2 tt.length ncap2))
    (first
      | exact HSS.out
      | exact four_four (hk5.obj HO4.out (fun e => e)) (hk5.obj HQ4.out (fun e => e)) d1 d2)
    (first
      | ((with_reducible refine (sameAns_ok c n c2 n2 ao ao2 no no2 cap cap2 ncap ncap2 ds ds2 ss tt _ (HX.out.same HK4.out.drew) (HY.out.same HK4.out.drew) HSX.out HSY.out (HS.out.same HK4.out.drew) (HT.out.same HK4.out.drew) (by omega)).mono ?_); rintro e w5 ⟨b, rfl, hk5, hb⟩
         have d1 := run_string_own (P := Try.prog) 23 9 5 (own_keeps hk5 (own_keeps ((Keeps.refl (fun _ => False) w4).drew) HOW1.out (fun _ _ e => e)) (fun _ _ e => e)) Try.underlying23 Try.underlying5 Try.underlying9
         have d2 := run_string_own (P := Try.prog) 23 9 5 (own_keeps hk5 (own_keeps ((Keeps.refl (fun _ => False) w4).drew) HOW2.out (fun _ _ e => e)) (fun _ _ e => e)) Try.underlying23 Try.underlying5 Try.underlying9))
  all_goals
    have HK5 : Hid (Same w4.drew w5) := Lib.hid hk5
    have HB := Lib.hid hb
    clear hk5 d1 d2 hb
    go_wp2
    go_ret
    refine ⟨congrArg (fun b => Ending.returned (Value.bool b)) (show ((ansBytes c n ds ss == ansBytes c2 n2 ds2 tt) == b) = true from ?_), (HK4.out.drew).trans HK5.out (fun _ _ e => e)⟩
    rw [beq_iff_eq, Bool.eq_iff_iff, beq_iff_eq, HE.out, HB.out]

theorem answers_ok (c n c2 n2 : Int) (ao ao2 no no2 : Option Addr) (cap cap2 ncap ncap2 : Nat) (ds ds2 : List UInt8) (ss tt : List ByteArray) (w : World) (hx : Bytes w (.slice ao ds.length cap) ds) (hy : Bytes w (.slice ao2 ds2.length cap2) ds2)
    (hsx : ∀ a, ao = some a → ds ≠ [] → a.spot = none) (hsy : ∀ a, ao2 = some a → ds2 ≠ [] → a.spot = none)
    (hs : Strs w (.slice no ss.length ncap) ss) (ht : Strs w (.slice no2 tt.length ncap2) tt) :
    Calls Try.prog 22 #[ansVal c n (.slice ao ds.length cap) (.slice no ss.length ncap), ansVal c2 n2 (.slice ao2 ds2.length cap2) (.slice no2 tt.length ncap2)] w fun e w' => e = .returned (.bool true) ∧ Same w w' := by
  by_cases l1 : (ds.length : Int) ≤ 500
  case neg => exact answers_great c n c2 n2 ao ao2 no no2 cap cap2 ncap ncap2 ds ds2 ss tt w (.inl (by omega))
  by_cases l2 : (ds2.length : Int) ≤ 500
  case neg => exact answers_great c n c2 n2 ao ao2 no no2 cap cap2 ncap ncap2 ds ds2 ss tt w (.inr (.inl ⟨l1, by omega⟩))
  by_cases l3 : (ss.length : Int) ≤ 25
  case neg => exact answers_great c n c2 n2 ao ao2 no no2 cap cap2 ncap ncap2 ds ds2 ss tt w (.inr (.inr (.inl ⟨l1, l2, by omega⟩)))
  by_cases l4 : (tt.length : Int) ≤ 25
  case neg => exact answers_great c n c2 n2 ao ao2 no no2 cap cap2 ncap ncap2 ds ds2 ss tt w (.inr (.inr (.inr ⟨l1, l2, l3, by omega⟩)))
  exact answers_short c n c2 n2 ao ao2 no no2 cap cap2 ncap ncap2 ds ds2 ss tt w hx hy hsx hsy hs ht l1 l2 l3 l4

end Go.Proofs.Ytickphkeeflbbaa
