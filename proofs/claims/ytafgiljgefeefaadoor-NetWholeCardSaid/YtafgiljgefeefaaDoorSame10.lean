/- The document's comparing of operations and of answers; which operations are looked at. -/
import Derived.Test.YtafgiljgefeefaaDoorOp1
import Derived.Test.YtafgiljgefeefaaDoorAns1
import Derived.Deep.QuietTactic
import Derived.BigQuiet
namespace Go.Proofs.YtafgiljgefeefaaDoor
open Go.RowKit
set_option linter.unusedVariables false

set_option maxRecDepth 100000 in
set_option maxHeartbeats 1600000 in
theorem sameOp_no1 (k off n k2 off2 n2 : Int) (p t p2 t2 : ByteArray) (ao ao2 : Option Addr) (len cap len2 cap2 : Nat) (w : World) (q : (k == k2) = false) :
    Calls Tryd.prog 21 #[opVal k off n p t (.slice ao len cap), opVal k2 off2 n2 p2 t2 (.slice ao2 len2 cap2)] w fun e w' => e = .returned (.bool false) ∧ Same w w' := by
  have q2 : ¬ k = k2 := by simpa using q
  go_enter Tryd.func21, Tryd.ntmps21
  go_wp2
  go_ret
  exact ⟨rfl, ((Keeps.refl _ _).alloc _).alloc _⟩

set_option maxRecDepth 100000 in
set_option maxHeartbeats 1600000 in
theorem sameOp_no2 (k off n off2 n2 : Int) (p t p2 t2 : ByteArray) (ao ao2 : Option Addr) (len cap len2 cap2 : Nat) (w : World) (q : (p.toList == p2.toList) = false) (q2 : ¬ p.toList = p2.toList) :
    Calls Tryd.prog 21 #[opVal k off n p t (.slice ao len cap), opVal k off2 n2 p2 t2 (.slice ao2 len2 cap2)] w fun e w' => e = .returned (.bool false) ∧ Same w w' := by
  go_enter Tryd.func21, Tryd.ntmps21
  go_wp2
  go_ret
  exact ⟨rfl, ((Keeps.refl _ _).alloc _).alloc _⟩

set_option maxRecDepth 100000 in
set_option maxHeartbeats 1600000 in
theorem sameOp_no3 (k off n off2 n2 : Int) (p t t2 : ByteArray) (ao ao2 : Option Addr) (len cap len2 cap2 : Nat) (w : World) (q : (t.toList == t2.toList) = false) (q2 : ¬ t.toList = t2.toList) :
    Calls Tryd.prog 21 #[opVal k off n p t (.slice ao len cap), opVal k off2 n2 p t2 (.slice ao2 len2 cap2)] w fun e w' => e = .returned (.bool false) ∧ Same w w' := by
  go_enter Tryd.func21, Tryd.ntmps21
  go_wp2
  go_ret
  exact ⟨rfl, ((Keeps.refl _ _).alloc _).alloc _⟩

set_option maxRecDepth 100000 in
set_option maxHeartbeats 1600000 in
theorem sameOp_no4 (k off n off2 n2 : Int) (p t : ByteArray) (ao ao2 : Option Addr) (len cap len2 cap2 : Nat) (w : World) (q : (off == off2) = false) :
    Calls Tryd.prog 21 #[opVal k off n p t (.slice ao len cap), opVal k off2 n2 p t (.slice ao2 len2 cap2)] w fun e w' => e = .returned (.bool false) ∧ Same w w' := by
  have q2 : ¬ off = off2 := by simpa using q
  go_enter Tryd.func21, Tryd.ntmps21
  go_wp2
  go_ret
  exact ⟨rfl, ((Keeps.refl _ _).alloc _).alloc _⟩

set_option maxRecDepth 100000 in
set_option maxHeartbeats 1600000 in
theorem sameOp_no5 (k off n n2 : Int) (p t : ByteArray) (ao ao2 : Option Addr) (len cap len2 cap2 : Nat) (w : World) (q : (n == n2) = false) :
    Calls Tryd.prog 21 #[opVal k off n p t (.slice ao len cap), opVal k off n2 p t (.slice ao2 len2 cap2)] w fun e w' => e = .returned (.bool false) ∧ Same w w' := by
  have q2 : ¬ n = n2 := by simpa using q
  go_enter Tryd.func21, Tryd.ntmps21
  go_wp2
  go_ret
  exact ⟨rfl, ((Keeps.refl _ _).alloc _).alloc _⟩

set_option maxRecDepth 100000 in
set_option maxHeartbeats 1600000 in
theorem sameOp_last (k off n : Int) (p t : ByteArray) (ao ao2 : Option Addr) (cap cap2 : Nat) (ds ds2 : List UInt8) (w : World) (hx : Bytes w (.slice ao ds.length cap) ds) (hy : Bytes w (.slice ao2 ds2.length cap2) ds2)
    (hsx : ∀ a, ao = some a → ds ≠ [] → a.spot = none) (hsy : ∀ a, ao2 = some a → ds2 ≠ [] → a.spot = none) :
    Calls Tryd.prog 21 #[opVal k off n p t (.slice ao ds.length cap), opVal k off n p t (.slice ao2 ds2.length cap2)] w fun e w' => e = .returned (.bool (ds == ds2)) ∧ Same w w' := by
  have hk : Same w ((w.alloc (.cells #[.int .i64 k, .string p, .string t, .int .i64 off, .int .i64 n, .slice ao ds.length cap] 35)).alloc (.cells #[.int .i64 k, .string p, .string t, .int .i64 off, .int .i64 n, .slice ao2 ds2.length cap2] 35)) := ((Keeps.refl _ _).alloc _).alloc _
  have c1 := run_string' (P := Tryd.prog) (hx.same hk) hsx 33 9 5 Tryd.underlying33 Tryd.underlying5 Tryd.underlying9
  have c2 := run_string' (P := Tryd.prog) (hy.same hk) hsy 33 9 5 Tryd.underlying33 Tryd.underlying5 Tryd.underlying9
  clear hk hx hy hsx hsy
  go_enter Tryd.func21, Tryd.ntmps21
  go_wp2
  go_ret
  exact ⟨rfl, ((Keeps.refl _ _).alloc _).alloc _⟩

theorem sameOp_ok (k off n k2 off2 n2 : Int) (p t p2 t2 : ByteArray) (ao ao2 : Option Addr) (cap cap2 : Nat) (ds ds2 : List UInt8) (w : World) (hx : Bytes w (.slice ao ds.length cap) ds) (hy : Bytes w (.slice ao2 ds2.length cap2) ds2)
    (hsx : ∀ a, ao = some a → ds ≠ [] → a.spot = none) (hsy : ∀ a, ao2 = some a → ds2 ≠ [] → a.spot = none) :
    Calls Tryd.prog 21 #[opVal k off n p t (.slice ao ds.length cap), opVal k2 off2 n2 p2 t2 (.slice ao2 ds2.length cap2)] w fun e w' => e = .returned (.bool (decide (k = k2 ∧ p = p2 ∧ t = t2 ∧ off = off2 ∧ n = n2 ∧ ds = ds2))) ∧ Same w w' := by
  by_cases q1 : k = k2
  case neg => rw [decide_eq_false (fun h => q1 h.1)]; exact sameOp_no1 k off n k2 off2 n2 p t p2 t2 ao ao2 ds.length cap ds2.length cap2 w (by simpa using q1)
  by_cases q2 : p = p2
  case neg => rw [decide_eq_false (fun h => q2 h.2.1)]; subst q1; exact sameOp_no2 k off n off2 n2 p t p2 t2 ao ao2 ds.length cap ds2.length cap2 w (toList_nb q2) (toList_ne q2)
  by_cases q3 : t = t2
  case neg => rw [decide_eq_false (fun h => q3 h.2.2.1)]; subst q1 q2; exact sameOp_no3 k off n off2 n2 p t t2 ao ao2 ds.length cap ds2.length cap2 w (toList_nb q3) (toList_ne q3)
  by_cases q4 : off = off2
  case neg => rw [decide_eq_false (fun h => q4 h.2.2.2.1)]; subst q1 q2 q3; exact sameOp_no4 k off n off2 n2 p t ao ao2 ds.length cap ds2.length cap2 w (by simpa using q4)
  by_cases q5 : n = n2
  case neg => rw [decide_eq_false (fun h => q5 h.2.2.2.2.1)]; subst q1 q2 q3 q4; exact sameOp_no5 k off n n2 p t ao ao2 ds.length cap ds2.length cap2 w (by simpa using q5)
  subst q1 q2 q3 q4 q5
  rw [show decide (k = k ∧ p = p ∧ t = t ∧ off = off ∧ n = n ∧ ds = ds2) = (ds == ds2) from by rw [Bool.eq_iff_iff]; simp]
  exact sameOp_last k off n p t ao ao2 cap cap2 ds ds2 w hx hy hsx hsy

set_option maxRecDepth 100000 in
set_option maxHeartbeats 1600000 in
/-- Great: false only of what is short. -/
theorem great_op (k off n : Int) (p t : ByteArray) (ao : Option Addr) (len cap : Nat) (w : World) :
    Calls Tryd.prog 20 #[opVal k off n p t (.slice ao len cap)] w fun e w' => e = .returned (.bool (decide (400 < p.size ∨ 400 < t.size ∨ 400 < len))) ∧ Same w w' := by
  by_cases q1 : (400 : Int) < (p.size : Int)
  · rw [decide_eq_true (.inl (by omega))]
    go_enter Tryd.func20, Tryd.ntmps20
    go_wp2
    go_ret
    exact ⟨rfl, (Keeps.refl _ _).alloc _⟩
  by_cases q2 : (400 : Int) < (t.size : Int)
  · rw [decide_eq_true (.inr (.inl (by omega)))]
    go_enter Tryd.func20, Tryd.ntmps20
    go_wp2
    go_ret
    exact ⟨rfl, (Keeps.refl _ _).alloc _⟩
  by_cases q3 : (400 : Int) < (len : Int)
  · rw [decide_eq_true (.inr (.inr (by omega)))]
    go_enter Tryd.func20, Tryd.ntmps20
    go_wp2
    go_ret
    exact ⟨rfl, (Keeps.refl _ _).alloc _⟩
  · rw [decide_eq_false (by omega)]
    go_enter Tryd.func20, Tryd.ntmps20
    go_wp2
    go_ret
    exact ⟨rfl, (Keeps.refl _ _).alloc _⟩

/-- What Same of two lists of texts tells. -/
def SamePost (w : World) (ss tt : List ByteArray) (e : Ending) (w' : World) : Prop := ∃ b, e = .returned (.bool b) ∧ (∃ n, w' = w.drewN n) ∧ (b = true ↔ ss = tt)
theorem SamePost.no {w : World} {ss tt : List ByteArray} (h : ¬ ss = tt) (n m : Nat) : SamePost w ss tt (.returned (.bool false)) ((w.drewN n).drewN m) := ⟨false, rfl, ⟨n + m, by simp⟩, ⟨fun e => (by cases e), fun e => absurd e h⟩⟩
theorem SamePost.no0 {w : World} {ss tt : List ByteArray} (h : ¬ ss = tt) : SamePost w ss tt (.returned (.bool false)) w := ⟨false, rfl, ⟨0, rfl⟩, ⟨fun e => (by cases e), fun e => absurd e h⟩⟩
theorem take_eq_snoc {ss tt : List ByteArray} {j : Nat} (h1 : j < ss.length) (h2 : j < tt.length) (h : ss.take j = tt.take j) (e : ss[j] = tt[j]) : ss.take (j + 1) = tt.take (j + 1) := by
  rw [List.take_succ_eq_append_getElem h1, List.take_succ_eq_append_getElem h2, h, e]

set_option maxRecDepth 100000 in
set_option maxHeartbeats 1600000 in
theorem same_texts_len (ao bo : Option Addr) (n m cap bcap : Nat) (ss tt : List ByteArray) (w : World) (hn : n = ss.length) (hm : m = tt.length) (h : ((n : Int) == (m : Int)) = false) :
    Calls Tryd.prog 29 #[.slice ao n cap, .slice bo m bcap] w (SamePost w ss tt) := by
  have q : ¬ (n : Int) = (m : Int) := by simpa using h
  have hne : ¬ ss = tt := by rintro rfl; omega
  clear hn hm
  go_enter Tryd.func29, Tryd.ntmps29
  go_wp2
  go_ret
  exact SamePost.no0 hne

set_option maxRecDepth 100000 in
set_option maxHeartbeats 3200000 in
theorem same_texts (ao bo : Option Addr) (n cap bcap : Nat) (ss tt : List ByteArray) (w : World) (hx : Strs w (.slice ao n cap) ss) (hy : Strs w (.slice bo n bcap) tt) (hn : ss.length = n) (hm : tt.length = n) (hl : n ≤ 140737488351232) :
    Calls Tryd.prog 29 #[.slice ao n cap, .slice bo n bcap] w (SamePost w ss tt) := by
  have HX := Lib.hid hx
  have HY := Lib.hid hy
  clear hx hy
  go_enter Tryd.func29, Tryd.ntmps29
  go_wp2
  go_loopw [5] (fun i wr => ∃ j : Nat, j ≤ n ∧ i = .int .i64 j ∧ ss.take j = tt.take j ∧ ∃ m, wr = w.drewN m) (fun i _ => n - (intOf i).toNat)
  case atStart => exact ⟨0, by omega, rfl, by simp, 0, rfl⟩
  case round =>
    obtain ⟨j, hj, rfl, heq, m, rfl⟩ := hrel
    by_cases hlt : j < n
    · obtain ⟨a, rfl, hc⟩ := HX.out.at (show j < ss.length by omega)
      obtain ⟨b, rfl, hd⟩ := HY.out.at (show j < tt.length by omega)
      have hj0 : (j : Int) < (n : Int) := by omega
      have HE := Lib.hid heq
      have HN : Hid (ss.length = n ∧ tt.length = n) := Lib.hid ⟨hn, hm⟩
      clear heq
      obtain ⟨s, hs⟩ : ∃ s, ss[j] = s := ⟨_, rfl⟩
      obtain ⟨t, ht⟩ : ∃ t, tt[j] = t := ⟨_, rfl⟩
      rw [hs] at hc
      rw [ht] at hd
      have HST : Hid (ss[j]? = some s ∧ tt[j]? = some t) := Lib.hid ⟨by rw [← hs]; simp, by rw [← ht]; simp⟩
      clear hs ht hn hm
      by_cases he : s = t
      · subst he
        go_wp2
        go_quiet (fail)
        go_wp2
        go_roundw
        case rel =>
          refine ⟨j + 1, by omega, by go_num, ?_, _, rfl⟩
          rw [List.take_add_one, List.take_add_one, HE.out, HST.out.1, HST.out.2]
        case measure => simp [intOf]; omega
      · have hb := toList_nb he
        have hb2 := toList_ne he
        go_wp2
        go_quiet (fail)
        go_wp2
        go_ret
        exact SamePost.no (show ¬ ss = tt from fun e => he (Option.some.inj (HST.out.1.symm.trans ((congrArg (fun l => l[j]?) e).trans HST.out.2)))) _ _
    · have hjn : ss.take j = ss := List.take_of_length_le (by omega)
      have hjm : tt.take j = tt := List.take_of_length_le (by omega)
      rw [hjn, hjm] at heq
      have HE := Lib.hid heq
      clear hjn hjm heq
      go_wp2
      go_ret
      exact ⟨true, rfl, ⟨m, rfl⟩, ⟨fun _ => HE.out, fun _ => rfl⟩⟩

theorem same_texts_any (ao bo : Option Addr) (cap bcap : Nat) (ss tt : List ByteArray) (w : World) (hx : Strs w (.slice ao ss.length cap) ss) (hy : Strs w (.slice bo tt.length bcap) tt) (hl : ss.length ≤ 140737488351232) :
    Calls Tryd.prog 29 #[.slice ao ss.length cap, .slice bo tt.length bcap] w (SamePost w ss tt) := by
  by_cases h : ss.length = tt.length
  · rw [← h] at hy ⊢
    exact same_texts ao bo ss.length cap bcap ss tt w hx hy rfl h.symm hl
  · exact same_texts_len ao bo ss.length tt.length cap bcap ss tt w rfl rfl (by simp; omega)

end Go.Proofs.YtafgiljgefeefaaDoor
