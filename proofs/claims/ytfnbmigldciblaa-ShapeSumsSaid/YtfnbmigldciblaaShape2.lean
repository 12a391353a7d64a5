/- What the document's SameInts tells; the document's example; the walk of ShapeMarks. -/
import Derived.Test.YtfnbmigldciblaaShape1
import Derived.Test.YtfnbmigldciblaaInts
namespace Go.Proofs.Ytfnbmigldciblaa
open Go.RowKit
set_option linter.unusedVariables false

/-- What Same of two lists of numbers tells. -/
def IntsPost (w : World) (ss tt : List Int) (e : Ending) (w' : World) : Prop := ∃ b, e = .returned (.bool b) ∧ (∃ n, w' = w.drewN n) ∧ (b = true ↔ ss = tt)
theorem IntsPost.no {w : World} {ss tt : List Int} (h : ¬ ss = tt) (n m : Nat) : IntsPost w ss tt (.returned (.bool false)) ((w.drewN n).drewN m) := ⟨false, rfl, ⟨n + m, by simp⟩, ⟨fun e => (by cases e), fun e => absurd e h⟩⟩
theorem IntsPost.no0 {w : World} {ss tt : List Int} (h : ¬ ss = tt) : IntsPost w ss tt (.returned (.bool false)) w := ⟨false, rfl, ⟨0, rfl⟩, ⟨fun e => (by cases e), fun e => absurd e h⟩⟩
set_option maxRecDepth 100000 in
set_option maxHeartbeats 1600000 in
theorem same_ints_len (ao bo : Option Addr) (n m cap bcap : Nat) (ss tt : List Int) (w : World) (hn : n = ss.length) (hm : m = tt.length) (h : ((n : Int) == (m : Int)) = false) :
    Calls Try.prog 13 #[.slice ao n cap, .slice bo m bcap] w (IntsPost w ss tt) := by
  have q : ¬ (n : Int) = (m : Int) := by simpa using h
  have hne : ¬ ss = tt := by rintro rfl; omega
  clear hn hm
  go_enter Try.func13, Try.ntmps13
  go_wp2
  go_ret
  exact IntsPost.no0 hne

set_option maxRecDepth 100000 in
set_option maxHeartbeats 3200000 in
theorem same_ints (ao bo : Option Addr) (n cap bcap : Nat) (ss tt : List Int) (w : World) (hx : Ints w (.slice ao n cap) ss) (hy : Ints w (.slice bo n bcap) tt) (hn : ss.length = n) (hm : tt.length = n) (hl : n ≤ 1099511627776) :
    Calls Try.prog 13 #[.slice ao n cap, .slice bo n bcap] w (IntsPost w ss tt) := by
  have HX := Lib.hid hx
  have HY := Lib.hid hy
  clear hx hy
  go_enter Try.func13, Try.ntmps13
  go_wp2
  go_loopw [5] (fun i wr => ∃ j : Nat, j ≤ n ∧ i = .int .i64 j ∧ ss.take j = tt.take j ∧ ∃ m, wr = w.drewN m) (fun i _ => n - (intOf i).toNat)
  case atStart => exact ⟨0, by omega, rfl, by simp, 0, rfl⟩
  case round =>
    obtain ⟨j, hj, rfl, heq, m, rfl⟩ := hrel
    by_cases hlt : j < n
    · obtain ⟨a, rfl, hc⟩ := HX.out.at (show j < ss.length by omega)
      obtain ⟨b, rfl, hd⟩ := HY.out.at (show j < tt.length by omega)
      have hj0 : (j : Int) < (n : Int) := by omega
      have HE := Lib.hid heq
      have HN : Hid (ss.length = n ∧ tt.length = n) := Lib.hid ⟨hn, hm⟩
      clear heq
      obtain ⟨s, hs⟩ : ∃ s, ss[j] = s := ⟨_, rfl⟩
      obtain ⟨t, ht⟩ : ∃ t, tt[j] = t := ⟨_, rfl⟩
      rw [hs] at hc
      rw [ht] at hd
      have HST : Hid (ss[j]? = some s ∧ tt[j]? = some t) := Lib.hid ⟨by rw [← hs]; simp, by rw [← ht]; simp⟩
      clear hs ht hn hm
      by_cases he : s = t
      · subst he
        go_wp2
        go_quiet (fail)
        go_wp2
        go_roundw
        case rel =>
          refine ⟨j + 1, by omega, by go_num, ?_, _, rfl⟩
          rw [List.take_add_one, List.take_add_one, HE.out, HST.out.1, HST.out.2]
        case measure => simp [intOf]; omega
      · have hb : (s == t) = false := by simpa using he
        go_wp2
        go_quiet (fail)
        go_wp2
        go_ret
        exact IntsPost.no (show ¬ ss = tt from fun e => he (Option.some.inj (HST.out.1.symm.trans ((congrArg (fun l => l[j]?) e).trans HST.out.2)))) _ _
    · have hjn : ss.take j = ss := List.take_of_length_le (by omega)
      have hjm : tt.take j = tt := List.take_of_length_le (by omega)
      rw [hjn, hjm] at heq
      have HE := Lib.hid heq
      clear hjn hjm heq
      go_wp2
      go_ret
      exact ⟨true, rfl, ⟨m, rfl⟩, ⟨fun _ => HE.out, fun _ => rfl⟩⟩

theorem same_ints_any (ao bo : Option Addr) (cap bcap : Nat) (ss tt : List Int) (w : World) (hx : Ints w (.slice ao ss.length cap) ss) (hy : Ints w (.slice bo tt.length bcap) tt) (hl : ss.length ≤ 1099511627776) :
    Calls Try.prog 13 #[.slice ao ss.length cap, .slice bo tt.length bcap] w (IntsPost w ss tt) := by
  by_cases h : ss.length = tt.length
  · rw [← h] at hy ⊢
    exact same_ints ao bo ss.length cap bcap ss tt w hx hy rfl h.symm hl
  · exact same_ints_len ao bo ss.length tt.length cap bcap ss tt w rfl rfl (by simp; omega)

theorem mark_nil (level : Int) (w : World) : Calls Try.prog 9 #[.slice none 0 0, .int .i64 level] w fun e w' => ∃ b, e = .returned (.bool b) ∧ w' = w ∧ (b = true ↔ MarkOf [] level) :=
  mark_any none 0 level [] w (Bytes.nil _ _ _) (by simp)
theorem mark_nil_zero : ¬ MarkOf [] 0 := by
  rintro ⟨_, _, h⟩
  simp [fnv] at h

set_option maxRecDepth 100000 in
set_option maxHeartbeats 1600000 in
theorem leaves_nil (w : World) : Calls Try.prog 14 #[.slice none 0 0] w fun e w' => ∃ g, e = .returned (.slice (some ⟨g, 0, none⟩) 1 1) ∧ w'.heap[g]? = some (.cells #[.int .i64 0] 3 (0, 0)) ∧ Same w w' := by
  go_enter Try.func14, Try.ntmps14
  go_wp2
  go_ret
  exact ⟨_, rfl, by have := heap_alloc_new (w.alloc (Obj.cells #[Value.slice none 0 0] 25)) (Obj.cells #[Value.int IntKind.i64 0] 3); simpa using this, ((Keeps.refl _ _).alloc _).alloc _⟩

set_option maxRecDepth 100000 in
set_option maxHeartbeats 1600000 in
theorem part_zero (f : Value) (w : World) : Calls Try.prog 19 #[.int .i64 0, f] w fun e w' => e = .returned (.slice none 0 0) ∧ Same w w' := by
  go_enter Try.func19, Try.ntmps19
  go_wp2
  refine wp_loop_rounds 1 ?_
  rw [rounds_succ]
  go_wp2
  go_ret
  exact ⟨rfl, Keeps.refl _ _⟩

set_option maxRecDepth 100000 in
set_option maxHeartbeats 1600000 in
theorem inner_nil (level : Int) (w : World) : Calls Try.prog 17 #[.slice none 0 0, .int .i64 level] w fun e w' => e = .returned (.slice none 0 0) ∧ Same w w' := by
  go_enter Try.func17, Try.ntmps17
  go_wp2_with fail
  ((with_reducible refine (part_zero _ _).mono ?_); rintro e w1 ⟨rfl, hk⟩)
  have HK := Lib.hid hk
  clear hk
  go_wp2
  go_ret
  exact ⟨rfl, (((Keeps.refl _ _).alloc _).alloc _).trans HK.out (fun _ _ e => e)⟩

set_option maxRecDepth 100000 in
set_option maxHeartbeats 1600000 in
theorem speaks06 (w : World) : Calls Try.prog 8 #[] w fun e w' => e = .returned (.bool true) ∧ Same w w' := by
  go_enter Try.func8, Try.ntmps8
  go_wp2_with fail
  ((with_reducible refine (mark_nil 0 _).mono ?_); rintro e w1 ⟨b, rfl, rfl, hb⟩)
  obtain rfl : b = false := by
    cases b with
    | false => rfl
    | true => exact absurd (hb.1 rfl) mark_nil_zero
  clear hb
  go_wp2_with fail
  ((with_reducible refine (leaves_nil _).mono ?_); rintro e w2 ⟨g, rfl, hg, hk⟩)
  have HG := Lib.hid hg
  have HK := Lib.hid hk
  clear hg hk
  go_wp2_with fail
  have i1 : Ints (w2.alloc (Obj.cells #[Value.int IntKind.i64 0] 3)) (.slice (some ⟨g, 0, none⟩) 1 1) [0] := Ints.of_block (((Keeps.refl (fun _ => False) _).alloc _).obj HG.out (fun e => e)) rfl 1 1 rfl
  have i2 : Ints (w2.alloc (Obj.cells #[Value.int IntKind.i64 0] 3)) (.slice (some ⟨w2.heap.size, 0, none⟩) 1 1) [0] := Ints.of_block (heap_alloc_new w2 _) rfl 1 1 rfl
  ((with_reducible refine (same_ints _ _ 1 1 1 [0] [0] _ i1 i2 rfl rfl (by omega)).mono ?_); rintro e w3 ⟨b, rfl, ⟨n, rfl⟩, hb⟩)
  obtain rfl : b = true := hb.2 rfl
  clear hb
  go_wp2_with fail
  ((with_reducible refine (inner_nil 1 _).mono ?_); rintro e w4 ⟨rfl, hk⟩)
  have HK4 := Lib.hid hk
  clear hk
  go_wp2
  go_ret
  exact ⟨rfl, ((HK.out.alloc _).drewN n).trans HK4.out (fun _ _ e => e)⟩

theorem Try.infoU8 : (Try.prog.info? 5).map (fun i => (i.zero, i.size, i.bytes)) = some (some (.int .u8 0), 1, 1) := by kernel_rfl

set_option maxRecDepth 100000 in
set_option maxHeartbeats 1600000 in
theorem marks_long (x : Value) (ao : Option Addr) (n c : Nat) (k : Int) (w : World) (h : (1000 : Int) < (n : Int)) :
    Calls Try.prog 3 #[.slice ao n c, .int .i64 k] w fun e w' => e = .returned (.bool true) ∧ Same w w' := by
  go_enter Try.func3, Try.ntmps3
  go_wp2_with fail
  ((with_reducible refine (speaks06 _).mono ?_); rintro e w1 ⟨rfl, hk1⟩)
  go_wp2
  go_ret
  exact ⟨rfl, hk1⟩

set_option maxRecDepth 100000 in
set_option maxHeartbeats 3200000 in
theorem marks_short (ao : Option Addr) (bs : List UInt8) (c : Nat) (k : Int) (w : World) (hx : Bytes w (.slice ao bs.length c) bs) (hsx : ∀ a, ao = some a → bs ≠ [] → a.spot = none) (hl : (bs.length : Int) ≤ 1000) :
    Calls Try.prog 3 #[.slice ao bs.length c, .int .i64 k] w fun e w' => e = .returned (.bool true) ∧ Same w w' := by
  have HX := Lib.hid hx
  have HSX := Lib.hid hsx
  clear hx hsx
  go_enter Try.func3, Try.ntmps3
  go_wp2_with fail
  ((with_reducible refine (speaks06 _).mono ?_); rintro e w1 ⟨rfl, hk1⟩)
  obtain ⟨i0, hi0, hz0, hz1, hz2⟩ := info_parts Try.infoU8
  have hbo : (w1.alloc (.cells #[] 5)).ownsRow w1.heap.size 5 1 (.slice (some ⟨w1.heap.size, 0, none⟩) ([] : List UInt8).length 0) ([] : List UInt8).length (u8s []) := by
    have := World.ownsRow_made (base := w1.heap.size) (e := 5) (size := 1) w1 #[] 0 (Nat.le_refl _) (by unfold maxLen; omega) (by simp)
    simpa [u8s] using this
  have HBO := Lib.hid hbo
  have HK1 := Lib.hid hk1
  have hxa : ∀ o, Bytes (w1.alloc o) (.slice ao bs.length c) bs := fun o => HX.out.same (HK1.out.alloc o)
  have HXA := Lib.hid hxa
  clear hbo hxa hk1
  go_wp2_with (at_builtin; refine wpList_append_bytes (by rfl) _ _ 22 5 i0 (by rfl) Try.underlying22 hi0 hz0 hz1 hz2 w1.heap.size w1.heap.size 0 [] bs (.slice ao bs.length c) (by rfl) (by rfl) HBO.out (HXA.out _) (by simp; omega) (by simp) ?_)
  intro gi ci w3 hown hgrow hat
  have hk3 : Same w1 w3 := ((Keeps.refl _ _).alloc _).grown hgrow (fun k e hk => by simp only [Option.some.injEq] at e; omega)
  have hown' : w3.ownsRow w1.heap.size 5 1 (.slice (some ⟨gi, 0, none⟩) bs.length ci) bs.length (u8s bs) := by simpa using hown
  have c1 := run_string_own (P := Try.prog) 22 9 5 hown' Try.underlying22 Try.underlying5 Try.underlying9
  have c2 := run_string' (P := Try.prog) ((HX.out.same HK1.out).same hk3) HSX.out 22 9 5 Try.underlying22 Try.underlying5 Try.underlying9
  have HO := Lib.hid hown'
  have HK3 := Lib.hid hk3
  clear hown hown' hgrow hat hk3
  go_wp2_with fail
  ((with_reducible refine (mark_any _ ci k bs _ (Bytes.of_own HO.out) (by omega)).mono ?_); rintro e w4 ⟨b, rfl, rfl, hb⟩)
  have HB := Lib.hid hb
  clear hb
  go_wp2_with fail
  ((with_reducible refine (rmark_any ao c k bs _ ((HX.out.same HK1.out).same HK3.out) (by omega)).mono ?_); rintro e w4 ⟨b2, rfl, rfl, hb2⟩)
  obtain rfl : b = b2 := by rw [Bool.eq_iff_iff, HB.out, hb2]
  clear hb2
  go_wp2
  go_ret
  exact ⟨rfl, HK1.out.trans HK3.out (fun _ _ e => e)⟩

end Go.Proofs.Ytfnbmigldciblaa
