/- What pack.NewEye and (*pack.Eye).Text do. -/
import Derived.Test.YtickphkeeflbbaaEye3
namespace Go.Proofs.Ytickphkeeflbbaa
open Go.RowKit
set_option linter.unusedVariables false

/-- An eye that was made by this call. -/
structure NewAt (w w' : World) (B : Nat) (v : Value) (bs : List UInt8) : Prop where
  eye : Eye 82 5 w' B v bs 0
  same : Same w w'
  new : w.heap.size ≤ B
  row : ∀ j, v.ownBlock = some j → w.heap.size ≤ j

set_option maxRecDepth 100000 in
set_option maxHeartbeats 800000 in
theorem neweye_some (a : Addr) (n c : Nat) (bs : List UInt8) (w : World) (hx : Bytes w (.slice (some a) n c) bs) (hn : bs.length = n) (hl : n ≤ 140737488351232) :
    Calls Try.prog 30 #[.slice (some a) n c] w fun e w' => ∃ B v, e = .returned (.pointer (some ⟨B, 0, none⟩)) ∧ NewAt w w' B v bs ∧ v ≠ .slice none 0 0 := by
  go_enter Try.func30, Try.ntmps30
  go_wp2_with fail
  ((with_reducible refine (clone_at a n c bs _ hx hn hl).mono ?_); rintro e w1 ⟨v, rfl, ho, hk, hv⟩)
  obtain ⟨g, cap, rfl⟩ : ∃ g cap, v = .slice (some ⟨g, 0, none⟩) n cap := by
    rcases ho.2 with ⟨h, _⟩ | ⟨g, cap, _, h, _⟩
    · exact absurd h hv
    · exact ⟨g, cap, h⟩
  have HO := Lib.hid ho
  have HK := Lib.hid hk
  have HV := Lib.hid hv
  clear ho hk hv hx
  go_wp2
  go_ret
  have ho := HO.out
  refine ⟨w1.heap.size, _, rfl, ⟨⟨heap_alloc_new w1 _, ?_, ?_, Nat.zero_le _⟩, HK.out.alloc _, HK.out.size, fun j e => (ho.lt j e).1⟩, HV.out⟩
  · rw [hn]; exact own_keeps ((Keeps.refl (fun _ => False) w1).alloc _) (own_base ho (Nat.zero_le _)) (fun _ _ e => e)
  · intro e; have := (ho.lt _ e).2; omega

set_option maxRecDepth 100000 in
set_option maxHeartbeats 800000 in
theorem neweye_nil (w : World) :
    Calls Try.prog 30 #[.slice none 0 0] w fun e w' => ∃ B v, e = .returned (.pointer (some ⟨B, 0, none⟩)) ∧ NewAt w w' B v [] := by
  go_enter Try.func30, Try.ntmps30
  go_wp2_with fail
  ((with_reducible refine (clone_nil 0 _).mono ?_); rintro e w1 ⟨rfl, rfl⟩)
  go_wp2
  go_ret
  exact ⟨w.heap.size, _, rfl, ⟨heap_alloc_new w _, World.ownsRow_nil _ _ _ _, by simp [Value.ownBlock], Nat.zero_le _⟩, (Keeps.refl _ _).alloc _, Nat.le_refl _, fun j e => by simp [Value.ownBlock] at e⟩

/-- NewEye of an owned row, a nil one too. -/
theorem neweye_own (base : Nat) (x : Value) (bs : List UInt8) (w : World) (ho : w.ownsRow base 5 1 x bs.length (u8s bs)) (hl : bs.length ≤ 140737488351232) :
    Calls Try.prog 30 #[x] w fun e w' => ∃ B v, e = .returned (.pointer (some ⟨B, 0, none⟩)) ∧ NewAt w w' B v bs ∧ (bs ≠ [] → v ≠ .slice none 0 0) := by
  have hb := Bytes.of_own ho
  rcases ho.2 with ⟨rfl, h0⟩ | ⟨g, cap, cur, rfl, _⟩
  · have h0' : bs = [] := List.length_eq_zero_iff.1 h0
    subst h0'
    exact (neweye_nil w).mono fun e w' ⟨B, v, h1, h2⟩ => ⟨B, v, h1, h2, fun e => absurd rfl e⟩
  · exact (neweye_some ⟨g, 0, none⟩ bs.length cap bs w hb rfl hl).mono fun e w' ⟨B, v, h1, h2, h3⟩ => ⟨B, v, h1, h2, fun _ => h3⟩

set_option maxRecDepth 100000 in
set_option maxHeartbeats 800000 in
theorem eye_text_short1 (B : Nat) (v : Value) (bs : List UInt8) (i : Nat) (w : World) (h : Eye 82 5 w B v bs i) (hl : bs.length ≤ 140737488351232) (hn : bs.length < i + 2) :
    Calls Try.prog 45 #[.pointer (some ⟨B, 0, none⟩)] w fun e w' => e = .returned (.tuple #[.slice none 0 0, .int .i64 20]) ∧ ∃ k, w' = w.drewN k := by
  obtain ⟨c0, c1, f0, f1⟩ := cell_of_two h.obj
  have H := Lib.hid h
  have hle := h.le
  clear h
  go_enter Try.func45, Try.ntmps45
  go_wp2_with fail
  ((with_reducible refine (eye_uint_short B v bs i 2 _ H.out hl (by omega) (by omega) (by omega)).mono ?_); rintro e w1 ⟨rfl, k, rfl⟩)
  go_wp2
  go_ret2
  exact ⟨rfl, k, rfl⟩

set_option maxRecDepth 100000 in
set_option maxHeartbeats 800000 in
theorem eye_text_short2 (B : Nat) (v : Value) (bs : List UInt8) (i : Nat) (w : World) (h : Eye 82 5 w B v bs i) (hl : bs.length ≤ 140737488351232) (hn : i + 2 ≤ bs.length) (hm : bs.length < i + 2 + beVal ((bs.drop i).take 2)) :
    Calls Try.prog 45 #[.pointer (some ⟨B, 0, none⟩)] w fun e w' => e = .returned (.tuple #[.slice none 0 0, .int .i64 20]) ∧ Eye 82 5 w' B v bs i ∧ Keeps (fun k => k = B) w w' := by
  obtain ⟨c0, c1, f0, f1⟩ := cell_of_two h.obj
  have H := Lib.hid h
  have hle := h.le
  have hbv : beVal ((bs.drop i).take 2) < 65536 := by
    have h1 := beVal_lt ((bs.drop i).take 2)
    rw [show ((bs.drop i).take 2).length = 2 from by simp; omega] at h1
    exact h1
  generalize hpp : beVal ((bs.drop i).take 2) = m at *
  have HPP := Lib.hid hpp
  have hm1 : (m : Int) < 65536 := by omega
  have hm2 : (0 : Int) ≤ (m : Int) := by omega
  clear h hpp
  go_enter Try.func45, Try.ntmps45
  go_wp2_with fail
  ((with_reducible refine (eye_uint_ok B v bs i 2 2 _ H.out hl hn (by omega) (by omega) (by omega)).mono ?_); rintro e w1 ⟨rfl, he, hk⟩)
  rw [HPP.out]
  have HE := Lib.hid he
  have HK := Lib.hid hk
  clear he hk
  go_wp2_with fail
  ((with_reducible refine (eye_raw_short B v bs (i + 2) m _ HE.out hl (by omega)).mono ?_); rintro e w2 ⟨rfl, k, rfl⟩)
  obtain ⟨d0, d1, g0, g1⟩ := cell_of_two (HE.out.drewN k).obj
  clear c0 c1 f0 f1 d0 g0
  go_wp2
  go_ret2
  have := (HE.out.drewN k).set (j := i) (by omega)
  refine ⟨rfl, by simpa using this, ?_⟩
  exact (HK.out.drewN k).setCell _ _ (.inr rfl)

/-- A text that isn't there whole is not read. -/
theorem eye_text_fail (B : Nat) (v : Value) (bs : List UInt8) (i : Nat) (w : World) (h : Eye 82 5 w B v bs i) (hl : bs.length ≤ 140737488351232) (hm : bs.length < i + 2 ∨ bs.length < i + 2 + beVal ((bs.drop i).take 2)) :
    Calls Try.prog 45 #[.pointer (some ⟨B, 0, none⟩)] w fun e w' => e = .returned (.tuple #[.slice none 0 0, .int .i64 20]) ∧ Eye 82 5 w' B v bs i ∧ Keeps (fun k => k = B) w w' := by
  by_cases h2 : bs.length < i + 2
  · exact (eye_text_short1 B v bs i w h hl h2).mono fun e w' ⟨he, k, hk⟩ => ⟨he, hk ▸ h.drewN k, hk ▸ (Keeps.refl _ _).drewN k⟩
  · exact eye_text_short2 B v bs i w h hl (by omega) (by omega)

set_option maxRecDepth 100000 in
set_option maxHeartbeats 800000 in
theorem eye_text_ok (B : Nat) (v : Value) (bs : List UInt8) (i m : Nat) (w : World) (h : Eye 82 5 w B v bs i) (hl : bs.length ≤ 140737488351232) (hn : i + 2 + m ≤ bs.length) (hbm : beVal ((bs.drop i).take 2) = m) (hv : v ≠ .slice none 0 0) :
    Calls Try.prog 45 #[.pointer (some ⟨B, 0, none⟩)] w fun e w' => ∃ r, e = .returned (.tuple #[r, .int .i64 0]) ∧ w'.ownsRow w.heap.size 5 1 r m (u8s ((bs.drop (i + 2)).take m)) ∧
      Eye 82 5 w' B v bs (i + 2 + m) ∧ Keeps (fun k => k = B) w w' := by
  obtain ⟨c0, c1, f0, f1⟩ := cell_of_two h.obj
  have H := Lib.hid h
  have HV := Lib.hid hv
  have HPP := Lib.hid hbm
  have hm1 : (m : Int) ≤ 140737488351232 := by omega
  have hm2 : (0 : Int) ≤ (m : Int) := by omega
  clear h hbm hv
  go_enter Try.func45, Try.ntmps45
  go_wp2_with fail
  ((with_reducible refine (eye_uint_ok B v bs i 2 2 _ H.out hl (by omega) (by omega) (by omega) (by omega)).mono ?_); rintro e w1 ⟨rfl, he, hk⟩)
  rw [HPP.out]
  have HE := Lib.hid he
  have HK := Lib.hid hk
  have hz := hk.size
  clear he hk
  go_wp2_with fail
  ((with_reducible refine (eye_raw_ok B v bs (i + 2) m _ HE.out hl hn HV.out).mono ?_); rintro e w2 ⟨r, rfl, ho, he, hk⟩)
  have HO := Lib.hid ho
  have HE2 := Lib.hid he
  have HK2 := Lib.hid hk
  clear ho he hk c0 c1 f0 f1
  go_wp2
  go_ret2
  exact ⟨r, rfl, own_base HO.out hz, HE2.out, HK.out.trans HK2.out (fun _ _ e => e)⟩

end Go.Proofs.Ytickphkeeflbbaa
