/- What comes out of Wrap and Unwrap, in one form; the examples of layer 4. -/
import Derived.Test.YtiddnhnfpggomaaDoorSecR3
import Derived.Test.YtiddnhnfpggomaaDoorPlan2
import Derived.Lib.SlBytesConst
namespace Go.Proofs.YtiddnhnfpggomaaDoor
open Go.RowKit
set_option linter.unusedVariables false

theorem noWrap (bs : List UInt8) (h : bs.getD 0 0 ≠ 66) : ∀ b, ¬ IsWrap bs b := fun b hb => h hb.first.2
theorem isWrap_same {bs b b' : List UInt8} (h : IsWrap bs b) (h' : IsWrap bs b') : b = b' := wrapB_inj h.1 h'.1 (h.2.symm.trans h'.2)
theorem run_reads {w : World} {v : Value} {b : List UInt8} (h : Reads w v b) : (convert 22 9 v).run Tryd.prog w = .ok (.string ⟨b.toArray⟩) w := by
  obtain ⟨ao, c, rfl, h1, h2, _⟩ := h
  exact run_string' h1 h2 _ _ _ Tryd.underlying22 Tryd.underlying5 Tryd.underlying9

def wrapOut (bs : List UInt8) : List UInt8 := if bs.length ≤ 470 then wrapB bs else []
def wrapErr (bs : List UInt8) : Int := if bs.length ≤ 470 then 0 else 23
theorem wrap_out (ao : Option Addr) (n c : Nat) (bs : List UInt8) (w : World) (hn : bs.length = n) (hx : Bytes w (.slice ao n c) bs) :
    Calls Tryd.prog 9 #[.slice ao n c] w fun e w' => Same w w' ∧ ∃ v, e = .returned (.tuple #[v, .int .i64 (wrapErr bs)]) ∧ Reads w' v (wrapOut bs) := by
  subst hn
  by_cases q : bs.length ≤ 470
  · refine (wrap_ok ao c bs w hx (by omega)).mono fun e w' ⟨g, cap, he, ho, hk⟩ => ⟨hk, _, by rw [wrapErr, if_pos q]; exact he, ?_⟩
    rw [wrapOut, if_pos q]
    exact Reads.of_own ho (wrapB_length bs q)
  · refine (wrap_long ao bs.length c w (by omega)).mono fun e w' ⟨he, hw⟩ => ⟨by rw [hw]; exact Keeps.refl _ _, _, by rw [wrapErr, if_neg q]; exact he, ?_⟩
    rw [wrapOut, if_neg q]
    exact Reads.nil _ _ _
theorem rwrap_out (ao : Option Addr) (n c : Nat) (bs : List UInt8) (w : World) (hn : bs.length = n) (hx : Bytes w (.slice ao n c) bs) :
    Calls Tryd.prog 10 #[.slice ao n c] w fun e w' => Same w w' ∧ ∃ v, e = .returned (.tuple #[v, .int .i64 (wrapErr bs)]) ∧ Reads w' v (wrapOut bs) := by
  subst hn
  by_cases q : bs.length ≤ 470
  · refine (rwrap_ok ao c bs w hx (by omega)).mono fun e w' ⟨g, he, ho, hk⟩ => ⟨hk, _, by rw [wrapErr, if_pos q]; exact he, ?_⟩
    rw [wrapOut, if_pos q]
    exact Reads.of_own ho (wrapB_length bs q)
  · refine (rwrap_long ao bs.length c w (by omega)).mono fun e w' ⟨⟨g, he⟩, hk⟩ => ⟨hk, _, by rw [wrapErr, if_neg q]; exact he, ?_⟩
    rw [wrapOut, if_neg q]
    exact Reads.nil _ _ _
/-- What is read of a sector as a block's, and the error's number. -/
def UnIs (bs b : List UInt8) (er : Int) : Prop := (IsWrap bs b ∧ er = 0) ∨ ((∀ b', ¬ IsWrap bs b') ∧ b = [] ∧ er = 22)
theorem UnIs.unique {bs b b' : List UInt8} {e e' : Int} (h : UnIs bs b e) (h' : UnIs bs b' e') : b = b' ∧ e = e' := by
  rcases h with ⟨h1, rfl⟩ | ⟨h1, rfl, rfl⟩ <;> rcases h' with ⟨h2, rfl⟩ | ⟨h2, rfl, rfl⟩
  · exact ⟨isWrap_same h1 h2, rfl⟩
  · exact absurd h1 (h2 _)
  · exact absurd h2 (h1 _)
  · exact ⟨rfl, rfl⟩
theorem unwrap_out (ao : Option Addr) (n c : Nat) (bs : List UInt8) (w : World) (hn : bs.length = n) (hx : Bytes w (.slice ao n c) bs) (hsp : ∀ x, ao = some x → bs ≠ [] → x.spot = none) (hc : n ≤ c) (hl : n ≤ 140737488351232) (hcn : ao = none → c = 0) :
    Calls Tryd.prog 11 #[.slice ao n c] w fun e w' => Same w w' ∧ ∃ v b er, e = .returned (.tuple #[v, .int .i64 er]) ∧ Reads w' v b ∧ UnIs bs b er := by
  subst hn
  refine (unwrap_any ao c bs w hx hsp hc hl hcn).mono fun e w' ⟨hk, h⟩ => ⟨hk, ?_⟩
  rcases h with ⟨b, r, h1, he, ho⟩ | ⟨h1, he⟩
  · exact ⟨r, b, 0, he, Reads.of_own ho rfl, .inl ⟨h1, rfl⟩⟩
  · exact ⟨_, [], 22, he, Reads.nil _ _ _, .inr ⟨h1, rfl, rfl⟩⟩
theorem runwrap_out (ao : Option Addr) (n c : Nat) (bs : List UInt8) (w : World) (hn : bs.length = n) (hx : Bytes w (.slice ao n c) bs) (hc : n ≤ c) (hl : n ≤ 140737488351232) :
    Calls Tryd.prog 12 #[.slice ao n c] w fun e w' => Same w w' ∧ ∃ v b er, e = .returned (.tuple #[v, .int .i64 er]) ∧ Reads w' v b ∧ UnIs bs b er := by
  subst hn
  refine (runwrap_any ao c bs w hx hc hl).mono fun e w' ⟨hk, h⟩ => ⟨hk, ?_⟩
  rcases h with ⟨b, g, cap, h1, he, ho⟩ | ⟨h1, g, he⟩
  · exact ⟨_, b, 0, he, Reads.of_own ho rfl, .inl ⟨h1, rfl⟩⟩
  · exact ⟨_, [], 22, he, Reads.nil _ _ _, .inr ⟨h1, rfl, rfl⟩⟩
/-- What is read of a sector as a node's, and the error's number. -/
def SupIs (bs : List UInt8) (s : Sup) (er : Int) : Prop := (s.Ok ∧ bs = superB s ∧ er = 0) ∨ (noSup bs ∧ s = sup0 ∧ er = 22)
theorem SupIs.unique {bs : List UInt8} {s s' : Sup} {e e' : Int} (h : SupIs bs s e) (h' : SupIs bs s' e') : s = s' ∧ e = e' := by
  rcases h with ⟨h1, h2, rfl⟩ | ⟨h1, rfl, rfl⟩ <;> rcases h' with ⟨h3, h4, rfl⟩ | ⟨h3, rfl, rfl⟩
  · exact ⟨superB_inj h1 h3 (h2.symm.trans h4), rfl⟩
  · exact absurd h2 (h3 _ h1)
  · exact absurd h4 (h1 _ h3)
  · exact ⟨rfl, rfl⟩
theorem SupIs.head {bs : List UInt8} {s : Sup} {e : Int} (h : SupIs bs s e) : s.Ok := by
  rcases h with ⟨h1, _⟩ | ⟨_, rfl, _⟩
  · exact h1
  · exact sup0_ok
theorem readSuper_out (ao : Option Addr) (n c : Nat) (bs : List UInt8) (w : World) (hN : Nums w) (hn : bs.length = n) (hx : Bytes w (.slice ao n c) bs) (hsp : ∀ x, ao = some x → bs ≠ [] → x.spot = none) (hc : n ≤ c) (hl : n ≤ 140737488351232) (hcn : ao = none → c = 0) :
    Calls Tryd.prog 14 #[.slice ao n c] w fun e w' => Same w w' ∧ ∃ s er, e = .returned (.tuple #[.agg s.cells.toArray, .int .i64 er]) ∧ SupIs bs s er := by
  subst hn
  refine (readSuper_any ao c bs w hN hx hsp hc hl hcn).mono fun e w' ⟨hk, h⟩ => ⟨hk, ?_⟩
  rcases h with ⟨s, h1, h2, he⟩ | ⟨h1, he⟩
  · exact ⟨s, 0, he, .inl ⟨h1, h2, rfl⟩⟩
  · exact ⟨sup0, 22, he, .inr ⟨h1, rfl, rfl⟩⟩
theorem rreadSuper_out (ao : Option Addr) (n c : Nat) (bs : List UInt8) (w : World) (hn : bs.length = n) (hx : Bytes w (.slice ao n c) bs) (hc : n ≤ c) (hl : n ≤ 140737488351232) :
    Calls Tryd.prog 15 #[.slice ao n c] w fun e w' => Same w w' ∧ ∃ s er, e = .returned (.tuple #[.agg s.cells.toArray, .int .i64 er]) ∧ SupIs bs s er := by
  subst hn
  refine (rreadSuper_any ao c bs w hx hc hl).mono fun e w' ⟨hk, h⟩ => ⟨hk, ?_⟩
  rcases h with ⟨s, h1, h2, he⟩ | ⟨h1, he⟩
  · exact ⟨s, 0, he, .inl ⟨h1, h2, rfl⟩⟩
  · exact ⟨sup0, 22, he, .inr ⟨h1, rfl, rfl⟩⟩

theorem unwrap_reads (v : Value) (bs : List UInt8) (w : World) (h : Reads w v bs) (h0 : bs ≠ []) (hl : bs.length ≤ 140737488351232) :
    Calls Tryd.prog 11 #[v] w fun e w' => Same w w' ∧ ∃ v b er, e = .returned (.tuple #[v, .int .i64 er]) ∧ Reads w' v b ∧ UnIs bs b er := by
  obtain ⟨ao, c, rfl, h1, h2, h3⟩ := h
  refine unwrap_out ao _ c bs w rfl h1 h2 h3 hl fun e => ?_
  subst e
  rcases h1 with ⟨a, c', e, _⟩ | ⟨c', e, hb⟩
  · simp at e
  · exact absurd hb h0
theorem readSuper_reads (v : Value) (bs : List UInt8) (w : World) (hN : Nums w) (h : Reads w v bs) (h0 : bs ≠ []) (hl : bs.length ≤ 140737488351232) :
    Calls Tryd.prog 14 #[v] w fun e w' => Same w w' ∧ ∃ s er, e = .returned (.tuple #[.agg s.cells.toArray, .int .i64 er]) ∧ SupIs bs s er := by
  obtain ⟨ao, c, rfl, h1, h2, h3⟩ := h
  refine readSuper_out ao _ c bs w hN rfl h1 h2 h3 hl fun e => ?_
  subst e
  rcases h1 with ⟨a, c', e, _⟩ | ⟨c', e, hb⟩
  · simp at e
  · exact absurd hb h0
theorem wrapB_ne (b : List UInt8) (h : b.length ≤ 470) : wrapB b ≠ [] := by
  intro e
  have := wrapB_length b h
  rw [e] at this
  simp at this
theorem superB_ne (s : Sup) (h : s.Ok) : superB s ≠ [] := by
  intro e
  have := superB_length s h
  rw [e] at this
  simp at this
theorem super_out (s : Sup) (hs : s.Ok) (w : World) (hN : Nums w) :
    Calls Tryd.prog 13 #[.agg s.cells.toArray] w fun e w' => Same w w' ∧ ∃ g c, e = .returned (.slice (some ⟨g, 0, none⟩) 512 c) ∧ Reads w' (.slice (some ⟨g, 0, none⟩) 512 c) (superB s) :=
  (super_any s hs w hN).mono fun e w' ⟨g, c, he, ho, hk⟩ => ⟨hk, g, c, he, Reads.of_own ho (superB_length s hs)⟩
theorem rsuper_out (s : Sup) (hs : s.Ok) (w : World) :
    Calls Tryd.prog 16 #[.agg s.cells.toArray] w fun e w' => Same w w' ∧ ∃ g c, e = .returned (.slice (some ⟨g, 0, none⟩) 512 c) ∧ Reads w' (.slice (some ⟨g, 0, none⟩) 512 c) (superB s) :=
  (rsuper_any s hs w).mono fun e w' ⟨g, he, ho, hk⟩ => ⟨hk, g, 512, he, Reads.of_own ho (superB_length s hs)⟩

set_option maxRecDepth 100000 in
set_option maxHeartbeats 6400000 in
theorem speaks04 (w : World) (hN : Nums w) : Calls Tryd.prog 8 #[] w fun e w' => e = .returned (.bool true) ∧ Same w w' := by
  obtain ⟨i0, hi0, hz0, hz1, hz2⟩ := info_parts (show (Tryd.prog.info? 5).map (fun i => (i.zero, i.size, i.bytes)) = some (some (.int .u8 0), 1, 1) from by kernel_rfl)
  have HN := Lib.hid hN
  have kc := fun (w : World) (C : Array Value) (n c : Nat) => Lib.run_convert_bytes_const (P := Tryd.prog) w 22 5 C n c Tryd.underlying22 Tryd.underlying5
  have hb : Bytes (w.alloc (.cells #[.int .u8 97, .int .u8 98] 5 (2, 3))) (.slice (some ⟨w.heap.size, 0, none⟩) 2 2) [97, 98] := Bytes.of_block (heap_alloc_new _ _) rfl 2 2 rfl
  have HB := Lib.hid hb
  clear hN hb
  go_enter Tryd.func8, Tryd.ntmps8
  go_wp2_with fail
  ((with_reducible refine (wrap_out _ 2 2 [97, 98] _ rfl HB.out).mono ?_); rintro e w1 ⟨hk1, v1, rfl, hr1⟩)
  rw [show wrapErr [97, 98] = 0 from rfl]
  rw [show wrapOut [97, 98] = wrapB [97, 98] from rfl] at hr1
  obtain ⟨ao1, c1, rfl, hb1, hsp1, hcc⟩ := hr1
  have hl1 : (wrapB [97, 98]).length = 512 := wrapB_length _ (by simp)
  rw [hl1] at hb1 hcc ⊢
  obtain ⟨a1, rfl⟩ : ∃ a1, ao1 = some a1 := by
    rcases hb1 with ⟨a, c', e, _⟩ | ⟨c', e, _⟩
    · simp only [Value.slice.injEq] at e; exact ⟨a, e.1⟩
    · simp at e
  have hcap : Bytes w1 (.slice (some a1) 6 c1) [66, 0, 2, 97, 98, 0] := by
    have h := hb1.take 6 (by omega)
    rw [show (wrapB [97, 98]).take 6 = [66, 0, 2, 97, 98, 0] from by decide] at h
    exact h
  have hs1 : a1.spot = none := hsp1 a1 rfl (by intro h; rw [h] at hl1; simp at hl1)
  have HC1 := Lib.hid hcap
  have HK1 : Hid (Same w w1) := Lib.hid (((Keeps.refl _ _).alloc _).trans hk1 (fun _ _ e => e))
  clear hk1 hb1 hsp1 hl1 hcap HB
  go_wp2_with (at_make; refine wpList_make_full _ rfl _ _ 22 rfl w1.heap.size 5 i0 _ 1 Tryd.underlying22 hi0 hz0 hz1 _ _ _ _ 512 (by rfl) (by rfl) rfl rfl (by rw [hz2]; omega) (by unfold maxLen; omega) (Nat.le_refl _) ?_)
  intro w2 ho2 hg2
  rw [show (madeCells #[Value.int .u8 0] 512).toList = u8s (List.replicate 512 0) from made_u8 512] at ho2
  have HK2 : Hid (Same w w2) := Lib.hid (HK1.out.grown hg2 (fun k e _ => by simp at e))
  have HC2 : Hid (Bytes w2 (.slice (some a1) 6 c1) [66, 0, 2, 97, 98, 0]) := Lib.hid (HC1.out.same ((Keeps.refl _ _).grown hg2 (fun k e _ => by simp at e)))
  have HO2 : Hid (Bytes w2 (.slice (some ⟨w1.heap.size, 0, none⟩) 512 512) (List.replicate 512 0)) := Lib.hid (Bytes.of_own' ho2 (by simp))
  clear ho2 hg2
  go_wp2_with fail
  ((with_reducible refine (unwrap_out _ 512 512 _ _ (by simp) HO2.out (fun x e _ => by cases e; rfl) (by omega) (by omega) (fun e => by simp at e)).mono ?_); rintro e w3 ⟨hk3, v3, b3, e3, rfl, -, hu3⟩)
  obtain ⟨-, rfl⟩ := hu3.unique (.inr ⟨noWrap _ (by simp), rfl, rfl⟩)
  have HK3 : Hid (Same w w3) := Lib.hid (HK2.out.trans hk3 (fun _ _ e => e))
  have HC3 : Hid (Bytes w3 (.slice (some a1) 6 c1) [66, 0, 2, 97, 98, 0]) := Lib.hid (HC2.out.same hk3)
  clear hk3 hu3 HK1 HC1 HK2 HC2 HO2
  go_wp2_with (at_make; refine wpList_make_full _ rfl _ _ 22 rfl w3.heap.size 5 i0 _ 1 Tryd.underlying22 hi0 hz0 hz1 _ _ _ _ 512 (by rfl) (by rfl) rfl rfl (by rw [hz2]; omega) (by unfold maxLen; omega) (Nat.le_refl _) ?_)
  intro w4 ho4 hg4
  rw [show (madeCells #[Value.int .u8 0] 512).toList = u8s (List.replicate 512 0) from made_u8 512] at ho4
  have HK4 : Hid (Same w w4) := Lib.hid (HK3.out.grown hg4 (fun k e _ => by simp at e))
  have HC4 : Hid (Bytes w4 (.slice (some a1) 6 c1) [66, 0, 2, 97, 98, 0]) := Lib.hid (HC3.out.same ((Keeps.refl _ _).grown hg4 (fun k e _ => by simp at e)))
  have HO4 : Hid (Bytes w4 (.slice (some ⟨w3.heap.size, 0, none⟩) 512 512) (List.replicate 512 0)) := Lib.hid (Bytes.of_own' ho4 (by simp))
  clear ho4 hg4
  go_wp2_with fail
  ((with_reducible refine (readSuper_out _ 512 512 _ _ (HN.out.keep HK4.out (fun e => e)) (by simp) HO4.out (fun x e _ => by cases e; rfl) (by omega) (by omega) (fun e => by simp at e)).mono ?_); rintro e w5 ⟨hk5, s5, e5, rfl, hu5⟩)
  obtain ⟨rfl, rfl⟩ := hu5.unique (.inr ⟨fun s hs e => by
    have h0 := superB_zero s
    rw [← e] at h0
    simp at h0, rfl, rfl⟩)
  have HK5 : Hid (Same w w5) := Lib.hid (HK4.out.trans hk5 (fun _ _ e => e))
  have HC5 : Hid (Bytes w5 (.slice (some a1) 6 c1) [66, 0, 2, 97, 98, 0]) := Lib.hid (HC4.out.same hk5)
  clear hk5 hu5 HK4 HC4 HO4 HK3 HC3
  have hzs := Tryd.zeroSup
  have HI6 := Lib.hid (Tryd.sizeSup sup0 (by simp [sup0]))
  have HN6 : Hid ((w5.alloc (.cells sup0.cells.toArray 34)).heap[w5.heap.size]? = some (.cells sup0.cells.toArray 34 (0, 0))) := Lib.hid (heap_alloc_new w5 _)
  obtain ⟨w6, hw6⟩ : ∃ w6, (w5.alloc (.cells sup0.cells.toArray 34)).setRow w5.heap.size sup0.cells.toArray = w6 := ⟨_, rfl⟩
  have HW6 := Lib.hid hw6
  have hk56 : Same w5 w6 := by rw [← hw6]; exact ((Keeps.refl _ _).alloc _).setRow _ _ (.inl (Nat.le_refl _))
  have HK6 : Hid (Same w w6) := Lib.hid (HK5.out.trans hk56 (fun _ _ e => e))
  have k1 : (convert 22 9 (.slice (some a1) 6 c1)).run Tryd.prog w6 = .ok (.string ⟨[66, 0, 2, 97, 98, 0].toArray⟩) w6 := run_string (HC5.out.same hk56) _ _ _ Tryd.underlying22 Tryd.underlying5 Tryd.underlying9 (fun a n c e => by simp only [Value.slice.injEq, Option.some.injEq] at e; rw [← e.1]; exact hs1)
  clear hw6 hk56 HC5
  go_wp2_with (first
    | (refine wpList_store_row (by rfl) 34 _ _ (by rfl) w5.heap.size sup0.cells.toArray (by rfl) (by rfl) 34 sup0.cells.toArray HN6.out HI6.out rfl (sup_all _) ?_; rw [HW6.out]))
  go_ret
  exact ⟨rfl, HK6.out⟩

end Go.Proofs.YtiddnhnfpggomaaDoor
