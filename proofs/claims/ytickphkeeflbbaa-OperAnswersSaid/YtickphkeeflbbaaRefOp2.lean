/- The document's own bytes of an operation. -/
import Derived.Test.YtickphkeeflbbaaRefOp1
namespace Go.Proofs.Ytickphkeeflbbaa
open Go.RowKit
set_option linter.unusedVariables false

theorem byte_of (x : Nat) (h : x < 256) : ((UInt8.ofNat x).toNat : Int) = (x : Int) := by
  rw [UInt8.toNat_ofNat']; omega
theorem be_pair (n : Nat) : be n 2 = [UInt8.ofNat (n / 256), UInt8.ofNat n] := by simp [be, List.range_succ]

set_option maxRecDepth 100000 in
set_option maxHeartbeats 1600000 in
theorem two_ok (n : Nat) (w : World) (hn : n ≤ 65535) :
    Calls Try.prog 28 #[.int .i64 n] w fun e w' => ∃ g, e = .returned (.slice (some ⟨g, 0, none⟩) 2 2) ∧ w'.ownsRow w.heap.size 5 1 (.slice (some ⟨g, 0, none⟩) 2 2) 2 (u8s (be n 2)) ∧ Same w w' := by
  have hn2 : (n : Int) ≤ 65535 := by omega
  have hc : (#[.int .u8 ((n : Int) / 256), .int .u8 ((n : Int) % 256)] : Array Value) = (u8s (be n 2)).toArray := by
    rw [be_pair]
    have h1 := byte_of (n / 256) (by omega)
    have h2 : ((UInt8.ofNat n).toNat : Int) = (n : Int) % 256 := by rw [UInt8.toNat_ofNat']; omega
    simp only [u8s, List.map_cons, List.map_nil, h1, h2]
    rfl
  have HC := Lib.hid hc
  clear hc
  go_enter Try.func28, Try.ntmps28
  go_wp2
  go_ret
  refine ⟨_, rfl, ?_, (Keeps.refl _ _).alloc _⟩
  have := own_lit w 5 (u8s (be n 2)) 2 (by rw [u8s_length, be_length]) (by omega)
  rw [← HC.out] at this
  exact this

set_option maxRecDepth 100000 in
set_option maxHeartbeats 1600000 in
theorem text10_ok (x : Value) (more : List UInt8) (w : World) (hx : Bytes w x more) (hm : more.length ≤ 65535) :
    Calls Try.prog 29 #[x] w fun e w' => ∃ v, e = .returned v ∧ w'.ownsRow w.heap.size 5 1 v (2 + more.length) (u8s (be more.length 2 ++ more)) ∧ Same w w' := by
  have HX := Lib.hid hx
  clear hx
  go_enter Try.func29, Try.ntmps29
  go_wp2_with fail
  ((with_reducible refine (ref_text_ok x more _ HX.out hm).mono ?_); rintro e w1 ⟨v, rfl, ho, hk, hv⟩)
  have HO := Lib.hid ho
  have HK := Lib.hid hk
  clear ho hk hv
  go_wp2
  go_ret
  exact ⟨_, rfl, HO.out, HK.out⟩
end Go.Proofs.Ytickphkeeflbbaa
