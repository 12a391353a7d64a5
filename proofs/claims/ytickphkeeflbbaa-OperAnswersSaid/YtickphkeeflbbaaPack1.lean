/- What (*pack.Pen).Uint does: refused with ErrArg, or so many bytes more. -/
import Derived.Test.YtickphkeeflbbaaProg
import Derived.Test.YtickphkeeflbbaaBytes
import Derived.Tactics
import Derived.Tactics2
import Derived.WalkKit
import Derived.WalkSpells
import Derived.WalkLawsBesides
import Derived.StillTactics
import Derived.OwnWalk
import Derived.Laws.Pointers
import Derived.Deep.RegionHeld3
import Derived.Deep.RegionLaw
import Derived.Deep.AppendLies
import Derived.Outline
import Derived.Lib.Hide
import Derived.KernelRfl
namespace Go.Proofs.Ytickphkeeflbbaa
open Go.RowKit

theorem Try.info5 : (Try.prog.info? 5).map (fun i => (i.zero, i.size, i.bytes)) = some (some (.int .u8 0), 1, 1) := by kernel_rfl

set_option maxRecDepth 100000 in
set_option maxHeartbeats 800000 in
theorem uint_size (p : Value) (n size : Int) (h : size < 1 ∨ 8 < size) (w : World) :
    Calls Try.prog 24 #[p, .int .u64 n, .int .i64 size] w fun e w' => e = .returned (.int .i64 1) ∧ w = w' := by
  rcases h with h | h
  · go_enter Try.func24, Try.ntmps24
    go_wp2
    go_ret
    exact ⟨rfl, rfl⟩
  · have h1 : ¬ size < 1 := by omega
    go_enter Try.func24, Try.ntmps24
    go_wp2
    go_ret
    exact ⟨rfl, rfl⟩

set_option maxRecDepth 100000 in
set_option maxHeartbeats 800000 in
theorem uint_great (p : Value) (n size : Int) (h1 : 1 ≤ size) (h2 : size < 8) (w : World) (h : (n / 2 ^ (8 * size).toNat != 0) = true) :
    Calls Try.prog 24 #[p, .int .u64 n, .int .i64 size] w fun e w' => e = .returned (.int .i64 1) ∧ w = w' := by
  go_enter Try.func24, Try.ntmps24
  go_wp2
  go_ret
  exact ⟨rfl, rfl⟩

theorem byte_at (n k : Nat) : IntKind.u8.wrap ((n : Int) / 2 ^ (8 * (k : Int)).toNat) = ((UInt8.ofNat (n / 256 ^ k)).toNat : Int) := by
  have e : (8 * (k : Int)).toNat = 8 * k := by omega
  have h2 : ((n : Int) / 2 ^ (8 * k)) = ((n / 2 ^ (8 * k) : Nat) : Int) := by simp
  rw [e, h2, Nat.pow_mul]
  simp [IntKind.wrap, IntKind.signed, IntKind.bits, UInt8.toNat_ofNat']
theorem quot_zero (n size : Nat) (hn : n < 256 ^ size) : ((n : Int) / 2 ^ (8 * size) != 0) = false := by
  have h : n / 2 ^ (8 * size) = 0 := by
    rw [Nat.pow_mul]
    exact Nat.div_eq_of_lt hn
  have h2 : ((n : Int) / 2 ^ (8 * size)) = ((n / 2 ^ (8 * size) : Nat) : Int) := by simp
  rw [h2, h]; rfl

set_option maxRecDepth 100000 in
set_option maxHeartbeats 1600000 in
theorem uint_ok (B base : Nat) (row : Option Nat) (bs : List UInt8) (n size : Nat) (w : World) (hp : Pen 56 5 w B base row bs) (hl : bs.length + 8 ≤ 140737488351232)
    (h1 : 1 ≤ size) (h2 : size ≤ 8) (hn : n < 256 ^ size) :
    Calls Try.prog 24 #[.pointer (some ⟨B, 0, none⟩), .int .u64 n, .int .i64 size] w fun e w' => e = .returned (.int .i64 0) ∧ Step 56 5 w w' B base row bs (be n size) := by
  obtain ⟨i0, hi0, hz0, hz1, hz2⟩ := info_parts Try.info5
  have q1 : ¬ (size : Int) < 1 := by omega
  have q2 : ¬ (8 : Int) < (size : Int) := by omega
  have q3 : ((n : Int) / 2 ^ (8 * size) != 0) = false := quot_zero n size hn
  by_cases h8 : (size : Int) < 8
  all_goals
    go_enter Try.func24, Try.ntmps24
    go_wp2
    go_loopw [7] (fun k wr => ∃ kk : Nat, kk ≤ size ∧ k = .int .i64 ((kk : Int) - 1) ∧ Step 56 5 w wr B base row bs ((be n size).take (size - kk)))
      (fun k _ => (intOf k + 1).toNat)
    case atStart => exact ⟨size, by omega, rfl, by simpa using Step.nothing hp (Keeps.refl _ _)⟩
    case round =>
      obtain ⟨kk, hj, rfl, hs⟩ := hrel
      rcases kk with _ | k
      · have hs0 : Step 56 5 w wr B base row bs (be n size) := by rw [Nat.sub_zero, be_take_all] at hs; exact hs
        clear hs
        go_wp2
        go_ret
        exact ⟨rfl, hs0⟩
      · have hk7 : (k : Int) ≤ 7 := by omega
        rw [show (((k + 1 : Nat) : Int) - 1) = (k : Int) from by omega]
        obtain ⟨row1, hp1, hk1, hm1⟩ := hs.ex
        obtain ⟨v, hv, hb, hown⟩ := hp1.ex
        have hL : (bs ++ (be n size).take (size - (k + 1))).length ≤ bs.length + 8 := by
          have := List.length_take_le (size - (k + 1)) (be n size)
          rw [List.length_append]; omega
        generalize hbs1 : bs ++ (be n size).take (size - (k + 1)) = bs1 at *
        have hB : B < wr.heap.size := lt_of_block hb
        have hbase : base ≤ wr.heap.size := hp1.hb
        have hc := cell_of_one hb
        have hf := free_of_one hb
        have hrow1 : v.ownBlock ≠ some B := by
          intro e; have := (hp1.row_lt B (hv ▸ e)).1; have := hp1.lt; omega
        have w1 : IntKind.i64.wrap (8 * (k : Int)) = 8 * (k : Int) := IntWalk.i64_in _ (by omega)
        have HB := Lib.hid hbs1
        have HP : Hid (Pen 56 5 wr B base row1 bs1 ∧ Keeps (PenSet B row) w wr ∧ Moves w row row1 ∧ v.ownBlock = row1) := Lib.hid ⟨hp1, hk1, hm1, hv⟩
        clear hb hs hp hk1 hm1 hv hp1 hbs1
        go_wp2_with fail
        go_region_law
          ((refine step_append_lies _ (by rfl) _ _ _ (by rfl) base 5 i0 _ 1 1 Try.underlying23 hi0 hz0 hz1 hz2 rfl (by omega) v _ _ (by rfl) ((hown.alloc _).drew)
              ⟨wr.heap.size, 0, none⟩ 1 1 [.int .u8 (IntKind.u8.wrap ((n : Int) / 2 ^ (8 * (k : Int)).toNat))] (by rfl) (by rfl) (World.news_of_block (cs := #[.int .u8 (IntKind.u8.wrap ((n : Int) / 2 ^ (8 * (k : Int)).toNat))]) (t := 5) (fr := (0, 0)) (heap_alloc_new wr _)) (by simp [Value.oneCell'])
              (by omega) (by unfold maxLen; omega) (by omega) (by simp; omega) (wr.heap.size + 1) (by simp) ?_; intro gg cap w1 hown1 hgrow hat hlt
            have c1 : w1.cell? ⟨B, 0, none⟩ = some v := (hgrow.cell_far ⟨B, 0, none⟩ (by simp; omega) (Ne.symm hrow1)).trans ((World.cell?_alloc_past _ _ _ hB).trans hc)
            have f1 : w1.frozen? ⟨B, 0, none⟩ = false := (hgrow.frozen_far ⟨B, 0, none⟩ (by simp; omega) (Ne.symm hrow1)).trans ((World.frozen?_alloc_past _ _ _ hB).trans hf)))
        all_goals
          go_wp2
          go_roundw
          case rel =>
            obtain ⟨hp1, hk1, hm1, hv⟩ := HP.out
            refine ⟨k, by omega, rfl, Step.cont hk1 hm1 (Step.append (more := [UInt8.ofNat (n / 256 ^ k)]) hp1 (((Keeps.refl _ _).alloc _).drew) ?_ (hv ▸ hgrow) ?_) HB.out ?_⟩
            · rw [u8s_one, ← byte_at]; exact hown1
            · rcases hat with e | e
              · exact .inl (hv ▸ e)
              · exact .inr (by omega)
            · rw [show size - k = size - (k + 1) + 1 from by omega, be_take_succ _ _ _ (by omega), show size - 1 - (size - (k + 1)) = k from by omega]
          case measure => simp [intOf]

/-- The same, at whatever integers stand for the two numbers. -/
theorem uint_ok' (B base : Nat) (row : Option Nat) (bs : List UInt8) (n size : Nat) (N S : Int) (w : World) (hp : Pen 56 5 w B base row bs) (hl : bs.length + 8 ≤ 140737488351232)
    (h1 : 1 ≤ size) (h2 : size ≤ 8) (hn : n < 256 ^ size) (hN : N = (n : Int)) (hS : S = (size : Int)) :
    Calls Try.prog 24 #[.pointer (some ⟨B, 0, none⟩), .int .u64 N, .int .i64 S] w fun e w' => e = .returned (.int .i64 0) ∧ Step 56 5 w w' B base row bs (be n size) := by
  subst hN; subst hS; exact uint_ok B base row bs n size w hp hl h1 h2 hn
end Go.Proofs.Ytickphkeeflbbaa
