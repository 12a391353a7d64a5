/- What oper's reader reads: a number, a text. -/
import Derived.Test.YtafgiljgefeefaaDoorPenW
import Derived.Test.YtafgiljgefeefaaDoorRd
import Derived.Test.YtafgiljgefeefaaDoorOp2
import Derived.Test.YtafgiljgefeefaaDoorPlan5
namespace Go.Proofs.YtafgiljgefeefaaDoor
open Go.RowKit
set_option linter.unusedVariables false

theorem run_reads {w : World} {v : Value} {b : List UInt8} (h : Reads w v b) : (convert 33 9 v).run Tryd.prog w = .ok (.string ⟨b.toArray⟩) w := by
  obtain ⟨ao, c, rfl, h1, h2, _⟩ := h
  exact run_string' h1 h2 _ _ _ Tryd.underlying33 Tryd.underlying5 Tryd.underlying9


theorem own_capv {w : World} {base : Nat} {e : TypeId} {sz n : Nat} {v : Value} {xs : List Value} (h : w.ownsRow base e sz v n xs) : ∀ ao m c, v = .slice ao m c → m ≤ c ∧ c ≤ 9223372036854775807 := by
  intro ao m c ev
  rcases h.2 with ⟨h, h0⟩ | ⟨g, cp, cur, h, _, _, h2, h3, _⟩
  · rw [h] at ev
    simp only [Value.slice.injEq] at ev
    omega
  · rw [h] at ev
    simp only [Value.slice.injEq] at ev
    unfold maxLen at h3
    omega
set_option maxRecDepth 100000 in
set_option maxHeartbeats 1600000 in
theorem rnum_w {w0 : World} {v : Value} (B : Nat) (bs : List UInt8) (i n : Nat) (N : Int) (w : World) (h : EyeW w0 w B v bs i) (hl : bs.length ≤ 140737488351232) (hn1 : 1 ≤ n) (hn2 : n ≤ 2) (hN : N = (n : Int)) :
    Calls Tryd.prog 59 #[.agg #[.pointer (some ⟨B, 0, none⟩)], .int .i64 N] w fun e w' => e = .returned (.int .i64 (numAt bs i n : Nat)) ∧ EyeW w0 w' B v bs (numTo bs i n) ∧ Keeps (fun k => k = B) w w' := by
  subst hN
  have H := Lib.hid (h.same' ((Keeps.refl _ _).alloc (.cells #[.pointer (some ⟨B, 0, none⟩)] 108)))
  have hp : 256 ^ n ≤ 65536 := by
    rcases (show n = 1 ∨ n = 2 by omega) with rfl | rfl <;> simp
  have HP := Lib.hid hp
  clear h hp
  go_enter Tryd.func59, Tryd.ntmps59
  go_wp2_with fail
  ((with_reducible refine (eyeuint_w B bs i n _ _ H.out hl hn1 (by omega) rfl).mono ?_); rintro e w1 ⟨x, er, j, rfl, hy, hx, ha, hb, hk⟩)
  have hxj : x = numAt bs i n ∧ j = numTo bs i n := by
    unfold numAt numTo
    by_cases q : i + n ≤ bs.length
    · rw [if_pos q, if_pos q]; exact ⟨(ha q).1, (ha q).2.2⟩
    · rw [if_neg q, if_neg q]; exact ⟨(hb (by omega)).1, (hb (by omega)).2.2⟩
  obtain ⟨rfl, rfl⟩ := hxj
  have hx2 : (numAt bs i n : Nat) < 65536 := by have := HP.out; omega
  generalize hX : numAt bs i n = X at *
  have u : IntKind.i64.wrap (X : Int) = X := by have := IntWalk.i64_in (X : Int) (by omega); exact this
  have HY := Lib.hid hy
  have HK := Lib.hid hk
  clear hy hx ha hb hk hx2
  go_wp2
  go_ret
  exact ⟨by rw [hX]; rfl, HY.out, ((Keeps.refl _ _).alloc _).trans HK.out (fun _ _ e => e)⟩

set_option maxRecDepth 100000 in
set_option maxHeartbeats 1600000 in
theorem rtext_w {w0 : World} {v : Value} (B : Nat) (bs : List UInt8) (i : Nat) (w : World) (h : EyeW w0 w B v bs i) (hl : bs.length ≤ 140737488351232) :
    Calls Tryd.prog 60 #[.agg #[.pointer (some ⟨B, 0, none⟩)]] w fun e w' => ∃ r, e = .returned r ∧ EyeW w0 w' B v bs (txtTo bs i) ∧ w'.ownsRow w.heap.size 5 1 r (txtAt bs i).length (u8s (txtAt bs i)) ∧ Keeps (fun k => k = B) w w' := by
  have H := Lib.hid (h.same' ((Keeps.refl _ _).alloc (.cells #[.pointer (some ⟨B, 0, none⟩)] 108)))
  clear h
  go_enter Tryd.func60, Tryd.ntmps60
  go_wp2_with fail
  ((with_reducible refine (eyetext_w B bs i _ H.out hl).mono ?_); rintro e w1 ⟨r, er, j, b, rfl, hy, ho, ha, hb, hk⟩)
  have hbj : b = txtAt bs i ∧ j = txtTo bs i := by
    unfold txtTo
    by_cases q : TxtOk bs i
    · have h1 : b = txtAt bs i := by unfold txtAt; rw [if_pos q]; exact (ha q).1
      rw [if_pos q, ← h1]; exact ⟨rfl, (ha q).2.2⟩
    · have h1 : b = txtAt bs i := by unfold txtAt; rw [if_neg q]; exact (hb q).1
      rw [if_neg q]; exact ⟨h1, (hb q).2.2⟩
  obtain ⟨rfl, rfl⟩ := hbj
  have HY := Lib.hid hy
  have HO := Lib.hid (own_base ho (show w.heap.size ≤ _ by simp only [World.size_alloc]; omega))
  have HK := Lib.hid hk
  clear hy ho ha hb hk
  go_wp2
  go_ret
  exact ⟨_, rfl, HY.out, HO.out, ((Keeps.refl _ _).alloc _).trans HK.out (fun _ _ e => e)⟩
end Go.Proofs.YtafgiljgefeefaaDoor
