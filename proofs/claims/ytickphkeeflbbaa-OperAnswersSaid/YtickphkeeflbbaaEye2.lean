/- What (*pack.Eye).Raw does. -/
import Derived.Test.YtickphkeeflbbaaEye1
namespace Go.Proofs.Ytickphkeeflbbaa
open Go.RowKit
set_option linter.unusedVariables false

set_option maxRecDepth 100000 in
set_option maxHeartbeats 800000 in
theorem eye_raw_neg (p : Value) (n : Int) (w : World) (hn : n < 0) :
    Calls Try.prog 50 #[p, .int .i64 n] w fun e w' => e = .returned (.tuple #[.slice none 0 0, .int .i64 1]) ∧ w = w' := by
  go_enter Try.func50, Try.ntmps50
  go_wp2
  go_ret2
  exact ⟨rfl, rfl⟩

set_option maxRecDepth 100000 in
set_option maxHeartbeats 800000 in
theorem eye_raw_short (B : Nat) (v : Value) (bs : List UInt8) (i : Nat) (n : Int) (w : World) (h : Eye 82 5 w B v bs i) (hl : bs.length ≤ 140737488351232) (hn : ((bs.length : Int) - i) < n) :
    Calls Try.prog 50 #[.pointer (some ⟨B, 0, none⟩), .int .i64 n] w fun e w' => e = .returned (.tuple #[.slice none 0 0, .int .i64 20]) ∧ ∃ k, w' = w.drewN k := by
  have h0 := h.le
  have h1 : ¬ n < 0 := by omega
  go_enter Try.func50, Try.ntmps50
  go_wp2_with fail
  ((with_reducible refine (left_any B v bs i _ h hl).mono ?_); rintro e w1 ⟨rfl, k, rfl⟩)
  go_wp2
  go_ret2
  exact ⟨rfl, k, rfl⟩

set_option maxRecDepth 100000 in
set_option maxHeartbeats 1600000 in
theorem eye_raw_some (B g cap : Nat) (bs : List UInt8) (i n : Nat) (w : World) (h : Eye 82 5 w B (.slice (some ⟨g, 0, none⟩) bs.length cap) bs i) (hl : bs.length ≤ 140737488351232) (hn : i + n ≤ bs.length) (hcap : bs.length ≤ cap) :
    Calls Try.prog 50 #[.pointer (some ⟨B, 0, none⟩), .int .i64 n] w fun e w' => ∃ r, e = .returned (.tuple #[r, .int .i64 0]) ∧ w'.ownsRow w.heap.size 5 1 r n (u8s ((bs.drop i).take n)) ∧
      Eye 82 5 w' B (.slice (some ⟨g, 0, none⟩) bs.length cap) bs (i + n) ∧ Keeps (fun k => k = B) w w' := by
  obtain ⟨c0, c1, f0, f1⟩ := cell_of_two h.obj
  have h1 : ¬ (n : Int) < 0 := by omega
  have h2 : (n : Int) ≤ (bs.length : Int) - (i : Int) := by omega
  have s1 : (0 : Int) ≤ (i : Int) := by omega
  have s2 : (i : Int) ≤ (i : Int) + (n : Int) := by omega
  have s3 : (i : Int) + (n : Int) ≤ (cap : Int) := by omega
  have s4 : (i : Int) + (n : Int) ≤ 140737488351232 := by omega
  have s5 : IntKind.i64.wrap ((i : Int) + (n : Int)) = (i : Int) + (n : Int) := IntWalk.i64_in _ (by omega)
  have s6 : ((i : Int) + (n : Int)).toNat = i + n := by omega
  have s7 : (0 : Int) ≤ (i : Int) + (n : Int) := by omega
  have H := Lib.hid h
  have hB := h.lt
  have hlen : ((bs.drop i).take n).length = n := by simp; omega
  obtain ⟨ad, had, hsp, hbl, hpart⟩ := h.slice hn hcap
  have HPA := Lib.hid hpart
  have HBL := Lib.hid hbl
  clear h hpart hsp hbl
  go_enter Try.func50, Try.ntmps50
  go_wp2_with fail
  ((with_reducible refine (left_any B _ bs i _ H.out hl).mono ?_); rintro e w1 ⟨rfl, k, rfl⟩)
  go_wp2_with fail
  go_region_held3 (fun w' => w'.cell? ⟨B, 0, none⟩ = some (.slice (some ⟨g, 0, none⟩) bs.length cap) ∧ w'.cell? ⟨B, 1, none⟩ = some (.int .i64 i))
    (first
      | go_keep
      | exact ⟨(World.cell?_of_block (hk.block B hB (fun e => e))).trans c0, (World.cell?_of_block (hk.block B hB (fun e => e))).trans c1⟩)
    (first
      | ((with_reducible refine (clone_at ad n (cap - i) ((bs.drop i).take n) _ ((HPA.out _).same ((Keeps.refl _ _).drewN (k + 1))) hlen (by omega)).mono ?_); rintro e w2 ⟨r, rfl, ho, hk, _⟩))
  have k0 : w2.cell? ⟨B, 1, none⟩ = some (.int .i64 i) := (World.cell?_of_block (hk.block B hB (fun e => e))).trans c1
  have k1 : w2.frozen? ⟨B, 1, none⟩ = false := (World.frozen?_of_block (hk.block B hB (fun e => e))).trans f1
  have HO := Lib.hid ho
  have HK := Lib.hid hk
  clear ho hk c0 c1 f0 f1
  go_wp2
  go_ret2
  have hH := H.out
  have hkk : Same w w2 := ((Keeps.refl _ _).drewN (k + 1)).trans HK.out (fun _ _ e => e)
  refine ⟨r, rfl, ?_, ?_, (hkk.any).setCell _ _ (.inr rfl)⟩
  · have ho := HO.out
    refine ownsRow_setCell_other ho (fun e => ?_) _
    have := (ho.lt B e).1
    have h3 : (w.drewN (k + 1)).heap.size = w.heap.size := rfl
    omega
  · have := (hH.keeps hkk (fun e => e) (fun _ _ e => e)).set (j := i + n) hn
    simpa using this

/-- Raw of what is there. -/
theorem eye_raw_ok (B : Nat) (v : Value) (bs : List UInt8) (i n : Nat) (w : World) (h : Eye 82 5 w B v bs i) (hl : bs.length ≤ 140737488351232) (hn : i + n ≤ bs.length) (hv : v ≠ .slice none 0 0) :
    Calls Try.prog 50 #[.pointer (some ⟨B, 0, none⟩), .int .i64 n] w fun e w' => ∃ r, e = .returned (.tuple #[r, .int .i64 0]) ∧ w'.ownsRow w.heap.size 5 1 r n (u8s ((bs.drop i).take n)) ∧
      Eye 82 5 w' B v bs (i + n) ∧ Keeps (fun k => k = B) w w' := by
  rcases h.form with ⟨rfl, rfl⟩ | ⟨g, cap, rfl, hc⟩
  · exact absurd rfl hv
  · exact eye_raw_some B g cap bs i n w h hl hn hc

end Go.Proofs.Ytickphkeeflbbaa
