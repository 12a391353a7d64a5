/- What sector.Wrap and sector.Unwrap do. -/
import Derived.Test.YtiddnhnfpggomaaDoorSec1
import Derived.Test.YtiddnhnfpggomaaDoorPenW
namespace Go.Proofs.YtiddnhnfpggomaaDoor
open Go.RowKit
set_option linter.unusedVariables false

set_option maxRecDepth 100000 in
set_option maxHeartbeats 3200000 in
theorem wrap_long (ao : Option Addr) (n c : Nat) (w : World) (h : (470 : Int) < (n : Int)) :
    Calls Tryd.prog 9 #[.slice ao n c] w fun e w' => e = .returned (.tuple #[.slice none 0 0, .int .i64 23]) ∧ w' = w := by
  go_enter Tryd.func9, Tryd.ntmps9
  go_wp2
  go_ret2
  exact ⟨rfl, rfl⟩

set_option maxRecDepth 100000 in
set_option maxHeartbeats 3200000 in
theorem wrap_ok (ao : Option Addr) (c : Nat) (bs : List UInt8) (w : World) (hx : Bytes w (.slice ao bs.length c) bs) (h : ¬ (470 : Int) < (bs.length : Int)) :
    Calls Tryd.prog 9 #[.slice ao bs.length c] w fun e w' => ∃ g cap, e = .returned (.tuple #[.slice (some ⟨g, 0, none⟩) 512 cap, .int .i64 0]) ∧ w'.ownsRow w.heap.size 5 1 (.slice (some ⟨g, 0, none⟩) 512 cap) 512 (u8s (wrapB bs)) ∧ Same w w' := by
  have HX := Lib.hid hx
  have HP := Lib.hid (PenW.mk' w)
  clear hx
  go_enter Tryd.func9, Tryd.ntmps9
  go_wp2_with fail
  ((with_reducible refine (uint_w w.heap.size [] 66 1 _ _ _ HP.out (by simp) (by omega) (by omega) (by omega) (by omega) (by omega)).mono ?_); rintro e w1 ⟨rfl, hp1⟩)
  have HP1 := Lib.hid hp1
  clear hp1 HP
  go_wp2_with fail
  ((with_reducible refine (text_w w.heap.size _ bs ao bs.length c _ HP1.out HX.out (by omega) (by simp [be_length]; omega)).mono ?_); rintro e w2 ⟨rfl, hp2⟩)
  have HP2 := Lib.hid hp2
  clear hp2 HP1
  go_wp2_with fail
  obtain ⟨base, row, hp⟩ := HP2.out.ex
  have hwt : [] ++ be 66 1 ++ (be bs.length 2 ++ bs) = wrapT bs := by
    rw [show be 66 1 = [66] from by decide]; simp [wrapT]
  rw [hwt] at hp
  have hf := fill_any w.heap.size base row (wrapT bs) w2 hp (by rw [wrapT_length]; omega)
  ((with_reducible refine hf.mono ?_); rintro e w3 ⟨g, cap, rfl, ho3, hk3⟩)
  have HO3 : Hid (w3.ownsRow w.heap.size 5 1 (.slice (some ⟨g, 0, none⟩) 512 cap) 512 (u8s (wrapB bs))) := Lib.hid (own_base ho3 HP2.out.same.size)
  have HK3 : Hid (Same w w3) := Lib.hid (HP2.out.same.trans hk3 (fun _ _ e => e))
  clear hf hp hwt ho3 hk3
  go_wp2
  go_ret2
  exact ⟨g, cap, rfl, HO3.out, HK3.out⟩

/-- A sector that is a block's. -/
def IsWrap (bs b : List UInt8) : Prop := b.length ≤ 470 ∧ bs = wrapB b
theorem wrap_text (bs b : List UInt8) (h : IsWrap bs b) : 1 + 2 ≤ bs.length ∧ 1 + 2 + beVal ((bs.drop 1).take 2) ≤ bs.length ∧ (bs.drop (1 + 2)).take (beVal ((bs.drop 1).take 2)) = b := by
  obtain ⟨h1, rfl⟩ := h
  obtain ⟨a0, a1, a2, a3⟩ := wrapB_at b h1
  have hl := wrapB_length b h1
  rw [a1, beVal_be _ 2 (by omega)]
  exact ⟨by omega, by omega, a2⟩

set_option maxRecDepth 100000 in
set_option maxHeartbeats 3200000 in
theorem unwrap_any (ao : Option Addr) (c : Nat) (bs : List UInt8) (w : World) (hx : Bytes w (.slice ao bs.length c) bs) (hsp : ∀ x, ao = some x → bs ≠ [] → x.spot = none) (hc : bs.length ≤ c) (hl : bs.length ≤ 140737488351232) (hcn : ao = none → c = 0) :
    Calls Tryd.prog 11 #[.slice ao bs.length c] w fun e w' => Same w w' ∧ ((∃ b r, IsWrap bs b ∧ e = .returned (.tuple #[r, .int .i64 0]) ∧ w'.ownsRow w.heap.size 5 1 r b.length (u8s b)) ∨
      ((∀ b, ¬ IsWrap bs b) ∧ e = .returned (.tuple #[.slice none 0 0, .int .i64 22]))) := by
  have HX := Lib.hid hx
  have HSP := Lib.hid hsp
  have HCN := Lib.hid hcn
  clear hx hsp hcn
  go_enter Tryd.func11, Tryd.ntmps11
  go_wp2_with fail
  ((with_reducible refine (neweye_w ao c bs _ HX.out hc hl HCN.out).mono ?_); rintro e w1 ⟨B, yv, rfl, hy1⟩)
  have HY1 := Lib.hid hy1
  clear hy1 HCN
  go_wp2_with fail
  ((with_reducible refine (eyeuint_w B bs 0 1 _ _ HY1.out hl (by omega) (by omega) (by omega)).mono ?_); rintro e w2 ⟨x0, e0, i0, rfl, hy2, -, h2a, h2b, -⟩)
  have HY2 := Lib.hid hy2
  have H2A := Lib.hid h2a
  have H2B := Lib.hid h2b
  clear hy2 HY1 h2a h2b
  go_wp2_with fail
  ((with_reducible refine (eyetext_w B bs i0 _ HY2.out hl).mono ?_); rintro e w3 ⟨r, er, j, b, rfl, hy3, ho3, h3a, h3b, -⟩)
  have HY3 := Lib.hid hy3
  have HO3 := Lib.hid ho3
  have hs2 : w.heap.size ≤ w2.heap.size := HY2.out.same.size
  -- where it is a block's sector, its text is read
  have hgood : ∀ b', IsWrap bs b' → er = 0 ∧ b = b' := by
    intro b' hb'
    obtain ⟨t1, t2, t3⟩ := wrap_text bs b' hb'
    have hi : i0 = 1 := by have := (H2A.out (by omega)).2.2; omega
    subst hi
    have := h3a ⟨t1, t2⟩
    exact ⟨this.2.1, this.1.trans t3⟩
  have her : er = 0 ∨ er = 20 := by
    by_cases hq : i0 + 2 ≤ bs.length ∧ i0 + 2 + beVal ((bs.drop i0).take 2) ≤ bs.length
    · exact .inl (h3a hq).2.1
    · exact .inr (h3b hq).2.1
  have HG := Lib.hid hgood
  clear hy3 ho3 h3a h3b hgood HY2
  rcases her with rfl | rfl
  case inr =>
    go_wp2
    go_ret2
    exact ⟨HY3.out.same, .inr ⟨fun b' hb' => by have := (HG.out b' hb').1; omega, rfl⟩⟩
  obtain ⟨bo, bc, rfl⟩ := (Bytes.of_own HO3.out).form
  have HBO : Hid (∀ a, bo = some a → b ≠ [] → a.spot = none) := Lib.hid fun a e _ => own_spot HO3.out a _ _ (by rw [e])
  by_cases q : (470 : Int) < (b.length : Int)
  · go_wp2_with fail
    ((with_reducible refine (wrap_long bo b.length bc _ q).mono ?_); rintro e w4 ⟨rfl, h4⟩)
    subst h4
    go_wp2
    go_ret2
    refine ⟨by first | exact HY3.out.same, .inr ⟨fun b' hb' => ?_, rfl⟩⟩
    have := (HG.out b' hb').2
    have := hb'.1
    subst b'
    omega
  · go_wp2_with fail
    ((with_reducible refine (wrap_ok bo bc b _ (Bytes.of_own HO3.out) (by omega)).mono ?_); rintro e w4 ⟨g, cap, rfl, ho4, hk4⟩)
    have HK4 : Hid (Same w w4) := Lib.hid (HY3.out.same.trans hk4 (fun _ _ e => e))
    have HO34 : Hid (w4.ownsRow w.heap.size 5 1 (.slice bo b.length bc) b.length (u8s b)) := Lib.hid (own_base (own_keeps hk4 HO3.out (fun _ _ e => e)) hs2)
    have hwl := wrapB_length b (by omega)
    have hby4 : Bytes w4 (.slice (some ⟨g, 0, none⟩) (wrapB b).length cap) (wrapB b) := by rw [hwl]; exact Bytes.of_own' ho4 hwl
    have heq := bytesEqual_any (some ⟨g, 0, none⟩) ao (wrapB b) bs cap c w4 hby4 (HX.out.same HK4.out) (fun x e _ => by cases e; rfl) HSP.out
    rw [hwl] at heq
    have HEQ := Lib.hid heq
    clear ho4 hk4 hwl hby4 heq
    by_cases hwb : wrapB b = bs
    · have HW := Lib.hid hwb
      rw [decide_eq_true hwb] at HEQ
      clear hwb
      go_wp2_with fail
      ((with_reducible refine HEQ.out.mono ?_); rintro e w5 ⟨rfl, h5⟩)
      subst h5
      go_wp2
      go_ret2
      exact ⟨by first | exact HK4.out, .inl ⟨b, _, ⟨by omega, HW.out.symm⟩, rfl, by first | exact HO34.out⟩⟩
    · have HW := Lib.hid hwb
      rw [decide_eq_false hwb] at HEQ
      clear hwb
      go_wp2_with fail
      ((with_reducible refine HEQ.out.mono ?_); rintro e w5 ⟨rfl, h5⟩)
      subst h5
      go_wp2
      go_ret2
      refine ⟨by first | exact HK4.out, .inr ⟨fun b' hb' => ?_, rfl⟩⟩
      have h6 := (HG.out b' hb').2
      exact HW.out (by rw [h6]; exact hb'.2.symm)

end Go.Proofs.YtiddnhnfpggomaaDoor
