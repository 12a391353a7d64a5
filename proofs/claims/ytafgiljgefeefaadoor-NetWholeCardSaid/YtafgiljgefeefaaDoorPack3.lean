/- What (*pack.Pen).Data does. -/
import Derived.Test.YtafgiljgefeefaaDoorProg
import Derived.Test.YtafgiljgefeefaaDoorBytes
import Derived.Tactics
import Derived.Tactics2
import Derived.WalkKit
import Derived.WalkSpells
import Derived.WalkLawsBesides
import Derived.StillTactics
import Derived.OwnWalk
import Derived.Laws.Pointers
import Derived.Deep.RegionHeld3
import Derived.Deep.RegionLaw
import Derived.Deep.AppendLies
import Derived.Outline
import Derived.Lib.Hide
import Derived.KernelRfl
import Derived.Test.YtafgiljgefeefaaDoorApp
namespace Go.Proofs.YtafgiljgefeefaaDoor
open Go.RowKit

theorem Tryd.info5 : (Tryd.prog.info? 5).map (fun i => (i.zero, i.size, i.bytes)) = some (some (.int .u8 0), 1, 1) := by kernel_rfl

set_option maxRecDepth 100000 in
set_option maxHeartbeats 800000 in
theorem uint_size (p : Value) (n size : Int) (h : size < 1 ∨ 8 < size) (w : World) :
    Calls Tryd.prog 31 #[p, .int .u64 n, .int .i64 size] w fun e w' => e = .returned (.int .i64 1) ∧ w = w' := by
  rcases h with h | h
  · go_enter Tryd.func31, Tryd.ntmps31
    go_wp2
    go_ret
    exact ⟨rfl, rfl⟩
  · have h1 : ¬ size < 1 := by omega
    go_enter Tryd.func31, Tryd.ntmps31
    go_wp2
    go_ret
    exact ⟨rfl, rfl⟩

set_option maxRecDepth 100000 in
set_option maxHeartbeats 800000 in
theorem uint_great (p : Value) (n size : Int) (h1 : 1 ≤ size) (h2 : size < 8) (w : World) (h : (n / 2 ^ (8 * size).toNat != 0) = true) :
    Calls Tryd.prog 31 #[p, .int .u64 n, .int .i64 size] w fun e w' => e = .returned (.int .i64 1) ∧ w = w' := by
  go_enter Tryd.func31, Tryd.ntmps31
  go_wp2
  go_ret
  exact ⟨rfl, rfl⟩

theorem byte_at (n k : Nat) : IntKind.u8.wrap ((n : Int) / 2 ^ (8 * (k : Int)).toNat) = ((UInt8.ofNat (n / 256 ^ k)).toNat : Int) := by
  have e : (8 * (k : Int)).toNat = 8 * k := by omega
  have h2 : ((n : Int) / 2 ^ (8 * k)) = ((n / 2 ^ (8 * k) : Nat) : Int) := by simp
  rw [e, h2, Nat.pow_mul]
  simp [IntKind.wrap, IntKind.signed, IntKind.bits, UInt8.toNat_ofNat']
theorem quot_zero (n size : Nat) (hn : n < 256 ^ size) : ((n : Int) / 2 ^ (8 * size) != 0) = false := by
  have h : n / 2 ^ (8 * size) = 0 := by
    rw [Nat.pow_mul]
    exact Nat.div_eq_of_lt hn
  have h2 : ((n : Int) / 2 ^ (8 * size)) = ((n / 2 ^ (8 * size) : Nat) : Int) := by simp
  rw [h2, h]; rfl

set_option maxRecDepth 100000 in
set_option maxHeartbeats 1600000 in
theorem uint_ok (B base : Nat) (row : Option Nat) (bs : List UInt8) (n size : Nat) (w : World) (hp : Pen 75 5 w B base row bs) (hl : bs.length + 8 ≤ 140737488351232)
    (h1 : 1 ≤ size) (h2 : size ≤ 8) (hn : n < 256 ^ size) :
    Calls Tryd.prog 31 #[.pointer (some ⟨B, 0, none⟩), .int .u64 n, .int .i64 size] w fun e w' => e = .returned (.int .i64 0) ∧ Step 75 5 w w' B base row bs (be n size) := by
  obtain ⟨i0, hi0, hz0, hz1, hz2⟩ := info_parts Tryd.info5
  have q1 : ¬ (size : Int) < 1 := by omega
  have q2 : ¬ (8 : Int) < (size : Int) := by omega
  have q3 : ((n : Int) / 2 ^ (8 * size) != 0) = false := quot_zero n size hn
  by_cases h8 : (size : Int) < 8
  all_goals
    go_enter Tryd.func31, Tryd.ntmps31
    go_wp2
    go_loopw [7] (fun k wr => ∃ kk : Nat, kk ≤ size ∧ k = .int .i64 ((kk : Int) - 1) ∧ Step 75 5 w wr B base row bs ((be n size).take (size - kk)))
      (fun k _ => (intOf k + 1).toNat)
    case atStart => exact ⟨size, by omega, rfl, by simpa using Step.nothing hp (Keeps.refl _ _)⟩
    case round =>
      obtain ⟨kk, hj, rfl, hs⟩ := hrel
      rcases kk with _ | k
      · have hs0 : Step 75 5 w wr B base row bs (be n size) := by rw [Nat.sub_zero, be_take_all] at hs; exact hs
        clear hs
        go_wp2
        go_ret
        exact ⟨rfl, hs0⟩
      · have hk7 : (k : Int) ≤ 7 := by omega
        rw [show (((k + 1 : Nat) : Int) - 1) = (k : Int) from by omega]
        obtain ⟨row1, hp1, hk1, hm1⟩ := hs.ex
        obtain ⟨v, hv, hb, hown⟩ := hp1.ex
        have hL : (bs ++ (be n size).take (size - (k + 1))).length ≤ bs.length + 8 := by
          have := List.length_take_le (size - (k + 1)) (be n size)
          rw [List.length_append]; omega
        generalize hbs1 : bs ++ (be n size).take (size - (k + 1)) = bs1 at *
        have hB : B < wr.heap.size := lt_of_block hb
        have hbase : base ≤ wr.heap.size := hp1.hb
        have hc := cell_of_one hb
        have hf := free_of_one hb
        have hrow1 : v.ownBlock ≠ some B := by
          intro e; have := (hp1.row_lt B (hv ▸ e)).1; have := hp1.lt; omega
        have w1 : IntKind.i64.wrap (8 * (k : Int)) = 8 * (k : Int) := IntWalk.i64_in _ (by omega)
        have HB := Lib.hid hbs1
        have HP : Hid (Pen 75 5 wr B base row1 bs1 ∧ Keeps (PenSet B row) w wr ∧ Moves w row row1 ∧ v.ownBlock = row1) := Lib.hid ⟨hp1, hk1, hm1, hv⟩
        clear hb hs hp hk1 hm1 hv hp1 hbs1
        go_wp2_with fail
        go_region_law
          ((refine step_append_lies _ (by rfl) _ _ _ (by rfl) base 5 i0 _ 1 1 Tryd.underlying33 hi0 hz0 hz1 hz2 rfl (by omega) v _ _ (by rfl) ((hown.alloc _).drew)
              ⟨wr.heap.size, 0, none⟩ 1 1 [.int .u8 (IntKind.u8.wrap ((n : Int) / 2 ^ (8 * (k : Int)).toNat))] (by rfl) (by rfl) (World.news_of_block (cs := #[.int .u8 (IntKind.u8.wrap ((n : Int) / 2 ^ (8 * (k : Int)).toNat))]) (t := 5) (fr := (0, 0)) (heap_alloc_new wr _)) (by simp [Value.oneCell'])
              (by omega) (by unfold maxLen; omega) (by omega) (by simp; omega) (wr.heap.size + 1) (by simp) ?_; intro gg cap w1 hown1 hgrow hat hlt
            have c1 : w1.cell? ⟨B, 0, none⟩ = some v := (hgrow.cell_far ⟨B, 0, none⟩ (by simp; omega) (Ne.symm hrow1)).trans ((World.cell?_alloc_past _ _ _ hB).trans hc)
            have f1 : w1.frozen? ⟨B, 0, none⟩ = false := (hgrow.frozen_far ⟨B, 0, none⟩ (by simp; omega) (Ne.symm hrow1)).trans ((World.frozen?_alloc_past _ _ _ hB).trans hf)))
        all_goals
          go_wp2
          go_roundw
          case rel =>
            obtain ⟨hp1, hk1, hm1, hv⟩ := HP.out
            refine ⟨k, by omega, rfl, Step.cont hk1 hm1 (Step.append (more := [UInt8.ofNat (n / 256 ^ k)]) hp1 (((Keeps.refl _ _).alloc _).drew) ?_ (hv ▸ hgrow) ?_) HB.out ?_⟩
            · rw [u8s_one, ← byte_at]; exact hown1
            · rcases hat with e | e
              · exact .inl (hv ▸ e)
              · exact .inr (by omega)
            · rw [show size - k = size - (k + 1) + 1 from by omega, be_take_succ _ _ _ (by omega), show size - 1 - (size - (k + 1)) = k from by omega]
          case measure => simp [intOf]

/-- The same, at whatever integers stand for the two numbers. -/
theorem uint_ok' (B base : Nat) (row : Option Nat) (bs : List UInt8) (n size : Nat) (N S : Int) (w : World) (hp : Pen 75 5 w B base row bs) (hl : bs.length + 8 ≤ 140737488351232)
    (h1 : 1 ≤ size) (h2 : size ≤ 8) (hn : n < 256 ^ size) (hN : N = (n : Int)) (hS : S = (size : Int)) :
    Calls Tryd.prog 31 #[.pointer (some ⟨B, 0, none⟩), .int .u64 N, .int .i64 S] w fun e w' => e = .returned (.int .i64 0) ∧ Step 75 5 w w' B base row bs (be n size) := by
  subst hN; subst hS; exact uint_ok B base row bs n size w hp hl h1 h2 hn
end Go.Proofs.YtafgiljgefeefaaDoor
namespace Go.Proofs.YtafgiljgefeefaaDoor
open Go.RowKit

set_option maxRecDepth 100000 in
set_option maxHeartbeats 800000 in
theorem raw_none (B base : Nat) (row : Option Nat) (bs : List UInt8) (xo : Option Addr) (c : Nat) (w : World) (hp : Pen 75 5 w B base row bs) :
    Calls Tryd.prog 33 #[.pointer (some ⟨B, 0, none⟩), .slice xo 0 c] w fun e w' => e = .returned (.tuple #[]) ∧ Step 75 5 w w' B base row bs [] := by
  obtain ⟨i0, hi0, hz0, hz1, hz2⟩ := info_parts Tryd.info5
  obtain ⟨v, hv, hb, hown⟩ := hp.ex
  have hB : B < w.heap.size := lt_of_block hb
  have hc := cell_of_one hb
  have hf := free_of_one hb
  have hform : ∃ ao n cap, v = .slice ao n cap ∧ n ≤ cap := by
    rcases hown.2 with ⟨rfl, _⟩ | ⟨g, cap, cur, rfl, _, _, h, _⟩
    · exact ⟨none, 0, 0, rfl, Nat.le_refl _⟩
    · exact ⟨_, _, _, rfl, h⟩
  have hset : w.setCell ⟨B, 0, none⟩ v = w := setCell_same hb
  obtain ⟨ao, n, cap, rfl, hn⟩ := hform
  go_enter Tryd.func33, Tryd.ntmps33
  go_wp2_with (at_builtin; refine wpList_append_run (by rfl) _ _ 33 (by rfl) _ _ _ _ (by rfl) (by rfl) (run_append_zero _ _ _ 5 i0 Tryd.underlying33 hi0 _ _ _ _ _ hn) ?_)
  go_end0
  exact ⟨rfl, Step.nothing hp (Keeps.refl _ _)⟩

set_option maxRecDepth 100000 in
set_option maxHeartbeats 800000 in
theorem raw_some (B base : Nat) (row : Option Nat) (bs more : List UInt8) (x : Value) (w : World) (hp : Pen 75 5 w B base row bs) (hx : Bytes w x more) (h0 : 0 < more.length)
    (hl : bs.length + more.length ≤ 140737488351232) :
    Calls Tryd.prog 33 #[.pointer (some ⟨B, 0, none⟩), x] w fun e w' => e = .returned (.tuple #[]) ∧ Step 75 5 w w' B base row bs more := by
  obtain ⟨i0, hi0, hz0, hz1, hz2⟩ := info_parts Tryd.info5
  obtain ⟨v, hv, hb, hown⟩ := hp.ex
  have hB : B < w.heap.size := lt_of_block hb
  have hbase : base ≤ w.heap.size := hp.hb
  have hc := cell_of_one hb
  have hf := free_of_one hb
  have hrow1 : v.ownBlock ≠ some B := by
    intro e; have := (hp.row_lt B (hv ▸ e)).1; have := hp.lt; omega
  have HP := Lib.hid hp
  have HV := Lib.hid hv
  rcases hx with ⟨a, c, rfl, hcell⟩ | ⟨c, rfl, rfl⟩
  · have HC := Lib.hid hcell
    clear hp hv hb hcell
    go_enter Tryd.func33, Tryd.ntmps33
    go_wp2_with (at_builtin; refine wpList_append_lies _ (by rfl) _ _ _ (by rfl) base 5 i0 _ 1 1 Tryd.underlying33 hi0 hz0 hz1 hz2 rfl (by omega) v _ _ (by rfl) hown a more.length c (u8s more) (by rfl) (by rw [u8s_length, Nat.mul_one]) HC.out (u8s_cell more) h0 (by unfold maxLen; omega) (by omega) hbase w.heap.size rfl ?_)
    intro gg cap w1 hown1 hgrow hat hlt
    have c1 : w1.cell? ⟨B, 0, none⟩ = some v := (hgrow.cell_far ⟨B, 0, none⟩ hB (Ne.symm hrow1)).trans hc
    have f1 : w1.frozen? ⟨B, 0, none⟩ = false := (hgrow.frozen_far ⟨B, 0, none⟩ hB (Ne.symm hrow1)).trans hf
    go_wp2
    go_end0
    refine ⟨rfl, Step.append HP.out (Keeps.refl _ _) hown1 (HV.out ▸ hgrow) ?_⟩
    rcases hat with e | e
    · exact .inl (HV.out ▸ e)
    · exact .inr (by omega)
  · simp at h0

/-- Raw, whatever is written. -/
theorem raw_any (B base : Nat) (row : Option Nat) (bs more : List UInt8) (x : Value) (w : World) (hp : Pen 75 5 w B base row bs) (hx : Bytes w x more)
    (hl : bs.length + more.length ≤ 140737488351232) :
    Calls Tryd.prog 33 #[.pointer (some ⟨B, 0, none⟩), x] w fun e w' => e = .returned (.tuple #[]) ∧ Step 75 5 w w' B base row bs more := by
  rcases Nat.eq_zero_or_pos more.length with h | h
  · obtain rfl := List.length_eq_zero_iff.1 h
    obtain ⟨ao, c, rfl⟩ := hx.form
    exact raw_none B base row bs ao c w hp
  · exact raw_some B base row bs more x w hp hx h hl

set_option maxRecDepth 100000 in
set_option maxHeartbeats 800000 in
theorem text_ok (B base : Nat) (row : Option Nat) (bs more : List UInt8) (x : Value) (w : World) (hp : Pen 75 5 w B base row bs) (hx : Bytes w x more)
    (hm : more.length ≤ 65535) (hxs : ∀ a n c, x = .slice (some a) n c → more ≠ [] → a.block ≠ B ∧ row ≠ some a.block) (hl : bs.length + more.length + 8 ≤ 140737488351232) :
    Calls Tryd.prog 36 #[.pointer (some ⟨B, 0, none⟩), x] w fun e w' => e = .returned (.int .i64 0) ∧ Step 75 5 w w' B base row bs (be more.length 2 ++ more) := by
  obtain ⟨ao, c, rfl⟩ := hx.form
  have hm2 : (more.length : Int) ≤ 65535 := by omega
  have hp0 := Lib.hid hp
  have hx0 := Lib.hid hx
  clear hp hx
  go_enter Tryd.func36, Tryd.ntmps36
  go_wp2_with fail
  ((with_reducible refine (uint_ok' B base row bs more.length 2 _ 2 _ hp0.out (by omega) (by omega) (by omega) (by omega) (by omega) (by omega)).mono ?_); rintro e w1 ⟨rfl, hs⟩)
  obtain ⟨row1, hp1, hk1, hm1⟩ := hs.ex
  have hx1 : Bytes w1 (.slice ao more.length c) more := by
    cases hmm : more with
    | nil => exact Bytes.nil _ _ _
    | cons b r =>
      rw [← hmm]
      refine hx0.out.keeps hk1 fun a n c' ha => ?_
      have := hxs a n c' ha (by rw [hmm]; simp)
      rintro (h | h)
      · exact this.1 h
      · exact this.2 h
  have hp1' := Lib.hid hp1
  have hx1' := Lib.hid hx1
  have hk1' := Lib.hid hk1
  have hm1' := Lib.hid hm1
  clear hp1 hx1 hk1 hm1 hs
  go_wp2_with fail
  ((with_reducible refine (raw_any B base row1 (bs ++ be more.length 2) more _ _ hp1'.out hx1'.out (by rw [List.length_append, be_length]; omega)).mono ?_); rintro e w2 ⟨rfl, hs2⟩)
  have hs2' := Lib.hid hs2
  clear hs2
  go_wp2
  go_ret
  exact ⟨rfl, Step.cont hk1'.out hm1'.out hs2'.out rfl rfl⟩

set_option maxRecDepth 100000 in
set_option maxHeartbeats 800000 in
theorem text_long (p : Value) (ao : Option Addr) (n c : Nat) (w : World) (h : 65535 < n) :
    Calls Tryd.prog 36 #[p, .slice ao n c] w fun e w' => e = .returned (.int .i64 23) ∧ w = w' := by
  have h' : (65535 : Int) < (n : Int) := by omega
  go_enter Tryd.func36, Tryd.ntmps36
  go_wp2
  go_ret
  exact ⟨rfl, rfl⟩

set_option maxRecDepth 100000 in
set_option maxHeartbeats 800000 in
theorem clone_nil (c : Nat) (w : World) :
    Calls Tryd.prog 56 #[.slice none 0 c] w fun e w' => e = .returned (.slice none 0 0) ∧ w = w' := by
  have q22 : ∀ (w : World) (a : Option Addr) (n c n' c' : Nat), (binOp .eql 33 (.slice a n c) (.slice none n' c')).run Tryd.prog w = .ok (.bool a.isNone) w := fun w a n c n' c' => Lib.run_eql_slice_nil w _ _ a n c n' c' Tryd.underlying33
  go_enter Tryd.func56, Tryd.ntmps56
  go_wp2
  go_ret
  exact ⟨rfl, rfl⟩

set_option maxRecDepth 100000 in
set_option maxHeartbeats 800000 in
theorem clone_some (a : Addr) (c : Nat) (bs : List UInt8) (w : World) (hx : Bytes w (.slice (some a) bs.length c) bs) (hl : bs.length ≤ 140737488351232) :
    Calls Tryd.prog 56 #[.slice (some a) bs.length c] w fun e w' => ∃ v, e = .returned v ∧ w'.ownsRow w.heap.size 5 1 v bs.length (u8s bs) ∧ Same w w' ∧ v ≠ .slice none 0 0 := by
  obtain ⟨i0, hi0, hz0, hz1, hz2⟩ := info_parts Tryd.info5
  have q22 : ∀ (w : World) (a : Option Addr) (n c n' c' : Nat), (binOp .eql 33 (.slice a n c) (.slice none n' c')).run Tryd.prog w = .ok (.bool a.isNone) w := fun w a n c n' c' => Lib.run_eql_slice_nil w _ _ a n c n' c' Tryd.underlying33
  have hcell : ∀ o j u, (u8s bs)[j]? = some u → (w.alloc o).cell? (a.add j) = some u := by
    rcases hx with ⟨a', c', h1, hc⟩ | ⟨c', h1, _⟩
    · simp only [Value.slice.injEq, Option.some.injEq] at h1
      obtain ⟨rfl, _, _⟩ := h1
      intro o j u hu
      have h2 := hc j u hu
      rw [World.cell?_of_block (w := w) (Below.heap_alloc w o _ (World.block_lt_of_cell? w _ h2))]
      exact h2
    · simp at h1
  have HC := Lib.hid hcell
  clear hcell hx
  go_enter Tryd.func56, Tryd.ntmps56
  go_wp2_with (at_builtin; refine wpList_append_own _ (by rfl) _ _ _ (by rfl) w.heap.size 5 i0 _ 1 1 Tryd.underlying33 hi0 hz0 hz1 hz2 rfl (by omega) _ 0 [] (by rfl) (World.ownsRow_made w #[] 0 (Nat.le_refl _) (by unfold maxLen; omega) (by simp)) a bs.length c (u8s bs) (by rfl) (by rw [u8s_length, Nat.mul_one]) (HC.out _) (u8s_cell bs) (by unfold maxLen; omega) (by omega) (by simp) ?_)
  intro v' w1 hown1 hgrow hnil
  go_wp2
  go_ret
  refine ⟨v', rfl, by simpa using hown1, ((Keeps.refl _ _).alloc _).grown hgrow (by rintro k hk hlt; simp [Value.ownBlock] at hk; omega), hnil⟩

end Go.Proofs.YtafgiljgefeefaaDoor
namespace Go.Proofs.YtafgiljgefeefaaDoor
open Go.RowKit

set_option maxRecDepth 100000 in
set_option maxHeartbeats 800000 in
theorem data_any (B base : Nat) (row : Option Nat) (bs : List UInt8) (w : World) (hp : Pen 75 5 w B base row bs) (hl : bs.length ≤ 140737488351232) :
    Calls Tryd.prog 38 #[.pointer (some ⟨B, 0, none⟩)] w fun e w' => ∃ v, e = .returned v ∧ w'.ownsRow w.heap.size 5 1 v bs.length (u8s bs) ∧ Same w w' := by
  obtain ⟨v, hv, hb, hown⟩ := hp.ex
  have hc := cell_of_one hb
  have hx := Bytes.of_own hown
  have hO := Lib.hid hown
  clear hp hv hb hown
  rcases hO.out.2 with ⟨rfl, h0⟩ | ⟨g, cap, cur, rfl, hrest⟩
  · have h0' : bs = [] := List.length_eq_zero_iff.1 h0
    subst h0'
    go_enter Tryd.func38, Tryd.ntmps38
    go_wp2_with fail
    ((with_reducible refine (clone_nil 0 _).mono ?_); rintro e w1 ⟨rfl, rfl⟩)
    go_wp2
    go_ret
    exact ⟨_, rfl, World.ownsRow_nil _ _ _ _, Keeps.refl _ _⟩
  · clear hrest
    go_enter Tryd.func38, Tryd.ntmps38
    go_wp2_with fail
    ((with_reducible refine (clone_some ⟨g, 0, none⟩ cap bs _ hx hl).mono ?_); rintro e w1 ⟨v, rfl, h1, h2, _⟩)
    go_wp2
    go_ret
    exact ⟨v, rfl, h1, h2⟩

end Go.Proofs.YtafgiljgefeefaaDoor
