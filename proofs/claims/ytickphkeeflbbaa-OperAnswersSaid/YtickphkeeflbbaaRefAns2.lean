/- The document's own bytes of an answer. -/
import Derived.Test.YtickphkeeflbbaaRefAns1
import Derived.Test.YtickphkeeflbbaaPlan5
import Derived.Test.YtickphkeeflbbaaRow
namespace Go.Proofs.Ytickphkeeflbbaa
open Go.RowKit
set_option linter.unusedVariables false

set_option maxRecDepth 100000 in
set_option maxHeartbeats 1600000 in
theorem refWriteAns_no (c n : Int) (ao no : Option Addr) (len cap ncap : Nat) (ss : List ByteArray) (w : World) (hx : Strs w (.slice no ss.length ncap) ss) (h : ¬ AnsRight c n len ss) :
    Calls Try.prog 17 #[ansVal c n (.slice ao len cap) (.slice no ss.length ncap)] w fun e w' => ∃ g, e = .returned (.tuple #[.slice (some ⟨g, 0, none⟩) 0 0, .int .i64 1]) ∧ Same w w' := by
  have HX := Lib.hid (hx.same ((Keeps.refl (fun _ => False) w).alloc (.cells #[.int .i64 c, .int .i64 n, .slice ao len cap, .slice no ss.length ncap] 41)))
  have HN := Lib.hid h
  clear hx h
  go_enter Try.func17, Try.ntmps17
  go_wp2_with fail
  ((with_reducible refine (refRightAnswer_ok c n ao no len cap ncap ss _ HX.out).mono ?_); rintro e w1 ⟨b, rfl, hk1, hb⟩)
  have hbf : b = false := by
    cases b with
    | false => rfl
    | true => exact absurd (hb.1 rfl) HN.out
  subst hbf
  have HK := Lib.hid hk1
  clear hk1 hb
  go_wp2
  go_ret2
  exact ⟨_, rfl, (((Keeps.refl _ _).alloc _).trans HK.out (fun _ _ e => e)).alloc _⟩

/-- What stands where the document's WriteAnswer writes. -/
structure ASt (w w' : World) (four : Array Value) (g cap : Nat) (xs : List UInt8) : Prop where
  op : w'.heap[w.heap.size]? = some (.cells four 41 (0, 0))
  own : w'.ownsRow (w.heap.size + 1) 5 1 (.slice (some ⟨g, 0, none⟩) xs.length cap) xs.length (u8s xs)
  same : Same w w'
theorem ASt.far {w w' : World} {six : Array Value} {g cap : Nat} {xs : List UInt8} (h : ASt w w' six g cap xs) : w.heap.size < g ∧ w.heap.size < w'.heap.size ∧ g < w'.heap.size := ⟨by have := (h.own.lt g rfl).1; omega, lt_of_block h.op, (h.own.lt g rfl).2⟩
theorem ASt.keep {w w' w'' : World} {six : Array Value} {g cap : Nat} {xs : List UInt8} (h : ASt w w' six g cap xs) (k : Same w' w'') : ASt w w'' six g cap xs := ⟨k.obj h.op (fun e => e), own_keeps k h.own (fun _ _ e => e), h.same.trans k (fun _ _ e => e)⟩
theorem ASt.grow {w w' w'' : World} {six : Array Value} {g cap g' cap' n : Nat} {xs more : List UInt8} (h : ASt w w' six g cap xs) (hn : n = xs.length + more.length) (ho : w''.ownsRow (w.heap.size + 1) 5 1 (.slice (some ⟨g', 0, none⟩) n cap') n (u8s (xs ++ more))) (hg : w'.grownBy w'' (some g)) :
    ASt w w'' six g' cap' (xs ++ more) := by
  have hf := h.far
  have hk : Keeps (fun q => q = g) w' w'' := (Keeps.refl _ _).grown hg (fun k e _ => by simp only [Option.some.injEq] at e; exact e.symm)
  refine ⟨hk.obj h.op (by omega), ?_, h.same.trans hk (fun q hq e => by omega)⟩
  rw [List.length_append, ← hn]
  exact ho

/-- A row, and what an append made of it. -/
def HandE (b1 g cap : Nat) (T : TypeId) (y m : List UInt8) : Nat → Value → World → Prop
  | 0, _, w => w.ownsRow b1 T 1 (.slice (some ⟨g, 0, none⟩) y.length cap) y.length (u8s y)
  | _ + 1, v, w => ∃ g' c', v = .slice (some ⟨g', 0, none⟩) (y ++ m).length c' ∧ w.ownsRow b1 T 1 (.slice (some ⟨g', 0, none⟩) (y ++ m).length c') (y ++ m).length (u8s (y ++ m))
theorem HandE.same {b1 g cap : Nat} {T : TypeId} {y m : List UInt8} (q : Nat) (v : Value) (w w' : World) (h : HandE b1 g cap T y m q v w) (k : Same w w') : HandE b1 g cap T y m q v w' := by
  cases q with
  | zero => exact own_keeps k h (fun _ _ e => e)
  | succ q =>
    obtain ⟨g', c', e, h1⟩ := h
    exact ⟨g', c', e, own_keeps k h1 (fun _ _ e => e)⟩

set_option maxRecDepth 100000 in
set_option maxHeartbeats 6400000 in
theorem refWriteAns_yes (c n : Int) (ao no : Option Addr) (cap ncap : Nat) (ds : List UInt8) (ss : List ByteArray) (w : World) (hd : Bytes w (.slice ao ds.length cap) ds) (hx : Strs w (.slice no ss.length ncap) ss) (h : AnsRight c n ds.length ss) :
    Calls Try.prog 17 #[ansVal c n (.slice ao ds.length cap) (.slice no ss.length ncap)] w fun e w' => ∃ v, e = .returned (.tuple #[v, .int .i64 0]) ∧
      Reads w' v (ansBytes c n ds ss) ∧ Same w w' := by
  obtain ⟨i0, hi0, hz0, hz1, hz2⟩ := info_parts Try.info5
  have HRG := Lib.hid h
  obtain ⟨⟨r1, r2⟩, ⟨r3, r4⟩, r5, r6, r7⟩ := h
  obtain ⟨cn, rfl⟩ := Int.eq_ofNat_of_zero_le r1
  obtain ⟨nn, rfl⟩ := Int.eq_ofNat_of_zero_le r3
  have HNM := Lib.hid r7
  have HD := Lib.hid hd
  have HX := Lib.hid hx
  have HXA := Lib.hid (hx.same ((Keeps.refl (fun _ => False) w).alloc (.cells #[.int .i64 cn, .int .i64 nn, .slice ao ds.length cap, .slice no ss.length ncap] 41)))
  clear hd hx r7
  go_enter Try.func17, Try.ntmps17
  go_wp2_with fail
  ((with_reducible refine (refRightAnswer_ok cn nn ao no ds.length cap ncap ss _ HXA.out).mono ?_); rintro e w1 ⟨b, rfl, hk1, hb⟩)
  obtain rfl : b = true := hb.2 HRG.out
  have hb1 : w1.heap[w.heap.size]? = some (.cells #[.int .i64 cn, .int .i64 nn, .slice ao ds.length cap, .slice no ss.length ncap] 41 (0, 0)) := hk1.obj (heap_alloc_new w _) (fun e => e)
  have hs1 : Same w w1 := ((Keeps.refl _ _).alloc _).trans hk1 (fun _ _ e => e)
  have HB1 := Lib.hid hb1
  have HK1 := Lib.hid hs1
  have hz1' : w.heap.size < w1.heap.size := lt_of_block hb1
  clear hb1 hk1 hs1 hb HXA
  go_wp2_with fail
  have HCELL := Lib.hid (show ∀ w', Same w1 w' → w'.cell? ⟨w.heap.size, 0, none⟩ = some (.int .i64 cn) ∧ w'.cell? ⟨w.heap.size, 1, none⟩ = some (.int .i64 nn) ∧ w'.cell? ⟨w.heap.size, 2, none⟩ = some (.slice ao ds.length cap) ∧ w'.cell? ⟨w.heap.size, 3, none⟩ = some (.slice no ss.length ncap) from
    fun w' k => cell_of_four (k.obj HB1.out (fun e => e)))
  refine wp_region_tail [[], [0], [1], [], [3], [4, 2], [2, 5, 5], [6, 6, 0, 1, 2, 3, 4, 5, 6]]
    [some 10, some 11, some 12, some 13, some 14, some 15, some 16, some 4]
    [.is (.pointer (some ⟨w.heap.size, 0, none⟩)), .is (.int .i64 cn), .own 5 (be cn 2), .is (.pointer (some ⟨w.heap.size, 1, none⟩)), .is (.int .i64 nn), .own 5 (be nn 2)]
    (fun _ => False) [] (fun _ _ => True) 3 _ _ 45 6 8 (by kernel_rfl) (by rfl) (by rfl) (by omega) (by kernel_rfl) (by kernel_rfl) (by decide) (by decide) (fun _ e => e.elim) trivial (fun _ _ _ h _ => h) ?_ ?_
  · refine ⟨?_, ?_, ?_, ?_, ?_, ?_, trivial⟩
    · intro a w' K hk hdep hfr hK
      have f1 := hfr 1 (by decide)
      exact plan_do (by rfl) (plan_yield (i := 0) (V := fun _ _ v => v = (.pointer (some ⟨w.heap.size, 0, none⟩) : Value)) (.pointer (some ⟨w.heap.size, 0, none⟩)) (by go_simp) rfl hK)
    · intro a w' K hk hdep hfr hK
      have e10 : a.tmps[10]?.getD undef = .pointer (some ⟨w.heap.size, 0, none⟩) := hdep 0 (by decide) 10 rfl
      have c0 := (HCELL.out w' hk).1
      exact plan_do (by rfl) (plan_yield (i := 1) (V := fun _ _ v => v = (.int .i64 cn : Value)) (.int .i64 cn) (by go_simp) rfl hK)
    · intro a w' K hk hdep hfr hK
      have e11 : a.tmps[11]?.getD undef = .int .i64 cn := hdep 1 (by decide) 11 rfl
      refine plan_do (by rfl) (plan_call 28 #[.int .i64 cn] (by go_simp) ?_)
      exact (two_ok cn w' (by omega)).mono fun e w'' ⟨g, he, ho, hk2⟩ => ⟨_, he, hK _ _ hk2 ⟨g, 2, rfl, own_base ho hk.size⟩⟩
    · intro a w' K hk hdep hfr hK
      have f1 := hfr 1 (by decide)
      exact plan_do (by rfl) (plan_yield (i := 3) (V := fun _ _ v => v = (.pointer (some ⟨w.heap.size, 1, none⟩) : Value)) (.pointer (some ⟨w.heap.size, 1, none⟩)) (by go_simp) rfl hK)
    · intro a w' K hk hdep hfr hK
      have e13 : a.tmps[13]?.getD undef = .pointer (some ⟨w.heap.size, 1, none⟩) := hdep 3 (by decide) 13 rfl
      have c1 := (HCELL.out w' hk).2.1
      exact plan_do (by rfl) (plan_yield (i := 4) (V := fun _ _ v => v = (.int .i64 nn : Value)) (.int .i64 nn) (by go_simp) rfl hK)
    · intro a w' K hk hdep hfr hK
      have e14 : a.tmps[14]?.getD undef = .int .i64 nn := hdep 4 (by decide) 14 rfl
      refine plan_do (by rfl) (plan_call 28 #[.int .i64 nn] (by go_simp) ?_)
      exact (two_ok nn w' (by omega)).mono fun e w'' ⟨g, he, ho, hk2⟩ => ⟨_, he, hK _ _ hk2 ⟨g, 2, rfl, own_base ho hk.size⟩⟩
  intro a w2 hk hdef hsz hv hfr _
  obtain ⟨g1, c1, e12, ho12⟩ : ∃ g cap, a.tmps[12]?.getD undef = .slice (some ⟨g, 0, none⟩) (be cn 2).length cap ∧ w2.ownsRow w1.heap.size 5 1 (.slice (some ⟨g, 0, none⟩) (be cn 2).length cap) (be cn 2).length (u8s (be cn 2)) := hv 2 12 (by omega) rfl
  obtain ⟨g2, c2, e15, ho15⟩ : ∃ g cap, a.tmps[15]?.getD undef = .slice (some ⟨g, 0, none⟩) (be nn 2).length cap ∧ w2.ownsRow w1.heap.size 5 1 (.slice (some ⟨g, 0, none⟩) (be nn 2).length cap) (be nn 2).length (u8s (be nn 2)) := hv 5 15 (by omega) rfl
  have he := act_eq a _ [some 10, some 11, some 12, some 13, some 14, some 15, some 16, some 4] 45 rfl hsz hdef hfr (fun d => a.tmps[d]?.getD undef) (fun _ _ => rfl)
  obtain ⟨v10, h10⟩ : ∃ v, a.tmps[10]?.getD undef = v := ⟨_, rfl⟩
  obtain ⟨v11, h11⟩ : ∃ v, a.tmps[11]?.getD undef = v := ⟨_, rfl⟩
  obtain ⟨v13, h13⟩ : ∃ v, a.tmps[13]?.getD undef = v := ⟨_, rfl⟩
  obtain ⟨v14, h14⟩ : ∃ v, a.tmps[14]?.getD undef = v := ⟨_, rfl⟩
  obtain ⟨v16, h16⟩ : ∃ v, a.tmps[16]?.getD undef = v := ⟨_, rfl⟩
  obtain ⟨v4, h4⟩ : ∃ v, a.tmps[4]?.getD undef = v := ⟨_, rfl⟩
  simp only [putAll, h10, h11, e12, h13, h14, e15, h16, h4, List.setIfInBounds_toArray, List.set_cons_zero, List.set_cons_succ] at he
  clear h10 h11 e12 h13 h14 e15 h16 h4 hdef hsz hv hfr
  subst he
  have hst2 : ASt w w2 #[.int .i64 cn, .int .i64 nn, .slice ao ds.length cap, .slice no ss.length ncap] g1 c1 (be cn 2) := ⟨hk.obj HB1.out (fun e => e), own_base ho12 (by omega), HK1.out.trans hk (fun _ _ e => e)⟩
  have HST2 := Lib.hid hst2
  have HA2 := Lib.hid (Bytes.of_own ho15)
  clear hst2 ho12 ho15 hk HCELL HB1 HK1
  obtain ⟨x1, hx1⟩ : ∃ x1, be cn 2 = x1 := ⟨_, rfl⟩
  obtain ⟨x2, hx2⟩ : ∃ x2, be nn 2 = x2 := ⟨_, rfl⟩
  have HL1 : Hid (x1.length = 2) := Lib.hid (by rw [← hx1]; exact be_length _ _)
  have HL2 : Hid (x2.length = 2) := Lib.hid (by rw [← hx2]; exact be_length _ _)
  rw [hx1] at HST2 ⊢
  rw [hx2] at HA2 ⊢
  have HX1 := Lib.hid hx1
  have HX2 := Lib.hid hx2
  clear hx1 hx2
  refine (wpList_append_bytes (by rfl) _ _ 23 5 i0 (by rfl) Try.underlying23 hi0 hz0 hz1 hz2 (w.heap.size + 1) g1 c1 x1 x2 _ (by rfl) (by rfl) HST2.out.own HA2.out (by rw [HL1.out, HL2.out]; omega) (by have := HST2.out.far; omega) ?_)
  intro g3 c3 w3 ho3 hg3 hat3
  have hst3 := HST2.out.grow rfl ho3 hg3
  have hlen3 : x1.length + x2.length = (x1 ++ x2).length := (List.length_append).symm
  rw [hlen3]
  obtain ⟨y3, hy3⟩ : ∃ y, x1 ++ x2 = y := ⟨_, rfl⟩
  rw [hy3] at hst3 ⊢
  have HST3 := Lib.hid hst3
  have HY3 := Lib.hid hy3
  have HLY3 : Hid (y3.length = 4) := Lib.hid (by rw [← hy3, List.length_append, HL1.out, HL2.out])
  clear hst3 ho3 hg3 hat3 hlen3 hy3 HST2 HA2 HL1 HL2
  go_wp2_with fail
  obtain ⟨m4, hm4⟩ : ∃ m, be ds.length 2 ++ ds = m := ⟨_, rfl⟩
  have HM4 := Lib.hid hm4
  have HLM4 : Hid (m4.length = 2 + ds.length) := Lib.hid (by rw [← hm4, List.length_append, be_length])
  clear hm4
  have hf3 := HST3.out.far
  have HCELL3 := Lib.hid (show ∀ w', Keeps (fun k => k = g3) w3 w' → w'.cell? ⟨w.heap.size, 0, none⟩ = some (.int .i64 cn) ∧ w'.cell? ⟨w.heap.size, 1, none⟩ = some (.int .i64 nn) ∧ w'.cell? ⟨w.heap.size, 2, none⟩ = some (.slice ao ds.length cap) ∧ w'.cell? ⟨w.heap.size, 3, none⟩ = some (.slice no ss.length ncap) from
    fun w' k => cell_of_four (k.obj HST3.out.op (by omega)))
  have hbk : u8s (be ss.length 1) = [.int .u8 (ss.length : Nat)] := by
    have h1 := byte_of ss.length (by omega)
    have h2 : be ss.length 1 = [UInt8.ofNat ss.length] := by simp [be]
    rw [h2]
    simp only [u8s, List.map_cons, List.map_nil, h1]
  have HBK := Lib.hid hbk
  have u8l : IntKind.u8.wrap (ss.length : Int) = ss.length := by have := IntWalk.u8_in (ss.length : Int) (by omega); exact this
  clear hbk
  refine wp_region_hand [[], [], [1], [2], [0, 3, 3], [], [5], [6], [7], [8], [4, 9, 4], [10, 10, 0, 1, 2, 3, 4, 5, 6, 7, 8, 9, 10]]
    [some 17, some 18, some 19, some 20, some 21, some 22, some 23, some 24, some 25, some 26, some 27, some 4]
    [.is (.slice (some ⟨g3, 0, none⟩) y3.length c3), .is (.pointer (some ⟨w.heap.size, 2, none⟩)), .is (.slice ao ds.length cap), .reads m4, .any, .is (.pointer (some ⟨w.heap.size, 3, none⟩)), .is (.slice no ss.length ncap), .is (.int .i64 ss.length), .is (.int .u8 ss.length), .own 5 (be ss.length 1)]
    (fun k => k = g3) [4] (HandE (w.heap.size + 1) g3 c3 5 y3 m4) 4 _ _ 45 10 12 (by kernel_rfl) (by rfl) (by rfl) (by omega) (by kernel_rfl) (by kernel_rfl) (by decide) (by decide) (fun k e => by omega) HST3.out.own HandE.same ?_ ?_
  · refine ⟨?_, ?_, ?_, ?_, ?_, ?_, ?_, ?_, ?_, ?_, trivial⟩
    · intro a w' K hk hdep hfr hK
      have f := hfr 4 (by decide)
      exact plan_do (by rfl) (plan_yield (i := 0) (V := fun _ _ v => v = (.slice (some ⟨g3, 0, none⟩) y3.length c3 : Value)) (.slice (some ⟨g3, 0, none⟩) y3.length c3) (by go_simp) rfl hK)
    · intro a w' K hk hdep hfr hK
      have f1 := hfr 1 (by decide)
      exact plan_do (by rfl) (plan_yield (i := 1) (V := fun _ _ v => v = (.pointer (some ⟨w.heap.size, 2, none⟩) : Value)) (.pointer (some ⟨w.heap.size, 2, none⟩)) (by go_simp) rfl hK)
    · intro a w' K hk hdep hfr hK
      have e18 : a.tmps[18]?.getD undef = .pointer (some ⟨w.heap.size, 2, none⟩) := hdep 1 (by decide) 18 rfl
      have c2 := (HCELL3.out w' hk).2.2.1
      exact plan_do (by rfl) (plan_yield (i := 2) (V := fun _ _ v => v = (.slice ao ds.length cap : Value)) (.slice ao ds.length cap) (by go_simp) rfl hK)
    · intro a w' K hk hdep hfr hK
      have e19 : a.tmps[19]?.getD undef = .slice ao ds.length cap := hdep 2 (by decide) 19 rfl
      refine plan_do (by rfl) (plan_call 29 #[.slice ao ds.length cap] (by go_simp) ?_)
      refine (text10_ok _ ds w' (HD.out.same (HST3.out.same.trans hk (fun q hq e => by omega))) (by omega)).mono fun e w'' ⟨v, he, ho, hk2⟩ => ⟨_, he, hK _ _ hk2 ⟨?_, ?_⟩⟩
      · rw [HM4.out] at ho
        exact Reads.of_own ho HLM4.out
      · intro a' n' c' e' e2
        have h1 := (ho.lt a'.block (by rw [e']; rfl)).1
        have h2 := hk.size
        omega
    · intro a w' K hk hdep hfr ev hE hev hK
      have e17 : a.tmps[17]?.getD undef = .slice (some ⟨g3, 0, none⟩) y3.length c3 := hdep 0 (by decide) 17 rfl
      have r20 : Reads w' (a.tmps[20]?.getD undef) m4 := (hdep 3 (by decide) 20 rfl).1
      obtain ⟨_, _, _, hb20, _⟩ := r20
      refine step_append_bytes (by rfl) (.tmp 17) (.tmp 20) 23 5 i0 (by rfl) Try.underlying23 hi0 hz0 hz1 hz2 (w.heap.size + 1) g3 c3 y3 m4 _ ((eval_tmp _ _).trans e17) (eval_tmp _ _) hE hb20 (by rw [HLY3.out, HLM4.out]; omega) (by have := hk.size; omega) ?_
      intro g' cap' w'' ho hg hat
      refine hK _ _ ((Keeps.refl _ _).grown hg (fun k e _ => by simp only [Option.some.injEq] at e; exact e.symm)) ⟨g', cap', by rw [List.length_append], ?_⟩ trivial
      rw [List.length_append]
      exact ho
    · intro a w' K hk hdep hfr hK
      have f1 := hfr 1 (by decide)
      exact plan_do (by rfl) (plan_yield (i := 5) (V := fun _ _ v => v = (.pointer (some ⟨w.heap.size, 3, none⟩) : Value)) (.pointer (some ⟨w.heap.size, 3, none⟩)) (by go_simp) rfl hK)
    · intro a w' K hk hdep hfr hK
      have e22 : a.tmps[22]?.getD undef = .pointer (some ⟨w.heap.size, 3, none⟩) := hdep 5 (by decide) 22 rfl
      have c3' := (HCELL3.out w' hk).2.2.2
      exact plan_do (by rfl) (plan_yield (i := 6) (V := fun _ _ v => v = (.slice no ss.length ncap : Value)) (.slice no ss.length ncap) (by go_simp) rfl hK)
    · intro a w' K hk hdep hfr hK
      have e23 : a.tmps[23]?.getD undef = .slice no ss.length ncap := hdep 6 (by decide) 23 rfl
      exact plan_do (by rfl) (plan_yield (i := 7) (V := fun _ _ v => v = (.int .i64 ss.length : Value)) (.int .i64 ss.length) (by go_simp) rfl hK)
    · intro a w' K hk hdep hfr hK
      have e24 : a.tmps[24]?.getD undef = .int .i64 ss.length := hdep 7 (by decide) 24 rfl
      exact plan_do (by rfl) (plan_yield (i := 8) (V := fun _ _ v => v = (.int .u8 ss.length : Value)) (.int .u8 ss.length) (by go_simp) rfl hK)
    · intro a w' K hk hdep hfr hK
      have e25 : a.tmps[25]?.getD undef = .int .u8 ss.length := hdep 8 (by decide) 25 rfl
      refine plan_do (by rfl) (plan_go (.slice (some ⟨w'.heap.size, 0, none⟩) 1 1) (w'.alloc (.cells #[.int .u8 ss.length] 5)) (by go_simp) (hK _ _ ((Keeps.refl _ _).alloc _) ⟨w'.heap.size, 1, rfl, ?_⟩))
      have h1 := own_lit w' 5 (u8s (be ss.length 1)) 1 (by rw [u8s_length, be_length]) (by omega)
      have h2 : (u8s (be ss.length 1)).toArray = #[.int .u8 (ss.length : Nat)] := by rw [HBK.out]
      rw [h2] at h1
      exact own_base h1 hk.size
  intro a w4 hk hdef hsz hv hfr ev hE1 hev
  have e21 := hev 0 21 rfl rfl
  obtain ⟨g4, c4, rfl, ho4⟩ := hE1
  obtain ⟨g26, c26, e26, ho26⟩ : ∃ g cap, a.tmps[26]?.getD undef = .slice (some ⟨g, 0, none⟩) (be ss.length 1).length cap ∧ w4.ownsRow w3.heap.size 5 1 (.slice (some ⟨g, 0, none⟩) (be ss.length 1).length cap) (be ss.length 1).length (u8s (be ss.length 1)) := hv 9 26 (by omega) rfl
  have he := act_eq a _ [some 17, some 18, some 19, some 20, some 21, some 22, some 23, some 24, some 25, some 26] 45 rfl hsz hdef hfr (fun d => a.tmps[d]?.getD undef) (fun _ _ => rfl)
  obtain ⟨v17, h17⟩ : ∃ v, a.tmps[17]?.getD undef = v := ⟨_, rfl⟩
  obtain ⟨v18, h18⟩ : ∃ v, a.tmps[18]?.getD undef = v := ⟨_, rfl⟩
  obtain ⟨v19, h19⟩ : ∃ v, a.tmps[19]?.getD undef = v := ⟨_, rfl⟩
  obtain ⟨v20, h20⟩ : ∃ v, a.tmps[20]?.getD undef = v := ⟨_, rfl⟩
  obtain ⟨v22, h22⟩ : ∃ v, a.tmps[22]?.getD undef = v := ⟨_, rfl⟩
  obtain ⟨v23, h23⟩ : ∃ v, a.tmps[23]?.getD undef = v := ⟨_, rfl⟩
  obtain ⟨v24, h24⟩ : ∃ v, a.tmps[24]?.getD undef = v := ⟨_, rfl⟩
  obtain ⟨v25, h25⟩ : ∃ v, a.tmps[25]?.getD undef = v := ⟨_, rfl⟩
  simp only [putAll, h17, h18, h19, h20, h22, h23, h24, h25, e21, e26, List.setIfInBounds_toArray, List.set_cons_zero, List.set_cons_succ] at he
  clear h17 h18 h19 h20 h22 h23 h24 h25 e21 e26 hdef hsz hv hfr hev
  subst he
  have hst4 : ASt w w4 #[.int .i64 cn, .int .i64 nn, .slice ao ds.length cap, .slice no ss.length ncap] g4 c4 (y3 ++ m4) := ⟨hk.obj HST3.out.op (by omega), ho4, HST3.out.same.trans hk (fun q hq e => by omega)⟩
  have HA4 := Lib.hid (Bytes.of_own ho26)
  obtain ⟨y4, hy4⟩ : ∃ y, y3 ++ m4 = y := ⟨_, rfl⟩
  obtain ⟨x4, hx4⟩ : ∃ x, be ss.length 1 = x := ⟨_, rfl⟩
  rw [hy4] at hst4 ⊢
  rw [hx4] at HA4 ⊢
  have HST4 := Lib.hid hst4
  have HY4 := Lib.hid hy4
  have HX4 := Lib.hid hx4
  have HLY4 : Hid (y4.length = 6 + ds.length) := Lib.hid (by rw [← hy4, List.length_append, HLY3.out, HLM4.out]; omega)
  have HLX4 : Hid (x4.length = 1) := Lib.hid (by rw [← hx4]; exact be_length _ _)
  clear hst4 ho4 ho26 hk hy4 hx4 HST3 HCELL3 HBK hf3
  refine (wpList_append_bytes (by rfl) _ _ 23 5 i0 (by rfl) Try.underlying23 hi0 hz0 hz1 hz2 (w.heap.size + 1) g4 c4 y4 x4 _ (by rfl) (by rfl) HST4.out.own HA4.out (by rw [HLY4.out, HLX4.out]; omega) (by have := HST4.out.far; omega) ?_)
  intro g5 c5 w5 ho5 hg5 hat5
  have hst5 := HST4.out.grow rfl ho5 hg5
  have hlen5 : y4.length + x4.length = (y4 ++ x4).length := (List.length_append).symm
  rw [hlen5]
  obtain ⟨y5, hy5⟩ : ∃ y, y4 ++ x4 = y := ⟨_, rfl⟩
  rw [hy5] at hst5 ⊢
  have HST5 := Lib.hid hst5
  have HHD : Hid (y5 = ansHead cn nn ds ss.length) := Lib.hid (by
    rw [← hy5, ← HX4.out, ← HY4.out, ← HM4.out, ← HY3.out, ← HX1.out, ← HX2.out]
    simp [ansHead, List.append_assoc])
  clear hst5 ho5 hg5 hat5 hlen5 hy5 HST4 HA4 HLY4 HLX4 HX4 HY4 HM4 HLM4 HY3 HLY3 HX1 HX2 u8l
  go_wp2_with fail
  have HLH : Hid (y5.length = 7 + ds.length) := Lib.hid (by rw [HHD.out, ansHead_length])
  go_loopw [4, 5] (fun v i wr => ∃ (j g c : Nat), j ≤ ss.length ∧ v = .slice (some ⟨g, 0, none⟩) (y5 ++ texts (ss.take j)).length c ∧ i = .int .i64 j ∧ ASt w wr #[.int .i64 cn, .int .i64 nn, .slice ao ds.length cap, .slice no ss.length ncap] g c (y5 ++ texts (ss.take j))) (fun _ i _ => ss.length - (intOf i).toNat)
  case atStart => exact ⟨0, g5, c5, by omega, by simp [texts], rfl, by simpa [texts] using HST5.out⟩
  case round =>
    obtain ⟨j, g, c, hj, rfl, rfl, hst⟩ := hrel
    have htl : (texts (ss.take j)).length ≤ 60 := by
      have h1 := texts_length (ss.take j) (fun s hs => HNM.out s (List.mem_of_mem_take hs))
      have h2 : (ss.take j).length ≤ 6 := by simp; omega
      omega
    obtain ⟨a0, a1, a2, a3⟩ := cell_of_four hst.op
    have HST := Lib.hid hst
    by_cases hlt : j < ss.length
    · have hx6 : Strs wr (.slice no ss.length ncap) ss := HX.out.same hst.same
      obtain ⟨a, rfl, hc⟩ := hx6.at hlt
      have hlt2 : (j : Int) < (ss.length : Int) := by omega
      have hsz := (HNM.out _ (List.getElem_mem hlt)).2
      have hsl := sb_length ss[j]
      have HSN := Lib.hid (texts_snoc ss j hlt)
      obtain ⟨y, hy⟩ : ∃ y, y5 ++ texts (ss.take j) = y := ⟨_, rfl⟩
      have HLY : Hid (y.length ≤ 200) := Lib.hid (by rw [← hy, List.length_append, HLH.out]; omega)
      rw [hy] at HST ⊢
      have HYY := Lib.hid hy
      have cv := Lib.run_convert_string_bytes (P := Try.prog) wr 9 23 5 ss[j] Try.underlying9 Try.underlying23 Try.underlying5
      have HYK := Lib.hid (bytesWorld_keeps (Keeps.refl (fun _ => False) wr) 5 ss[j])
      clear hst hx6 hy
      go_wp2_with fail
      ((with_reducible refine (text10_ok _ (sb ss[j]) _ (bytesWorld_bytes _ _ _ _ _ (sb_length _).symm) (by omega)).mono ?_); rintro e w7 ⟨vb, rfl, hob, hkb⟩)
      have HB : Hid (Bytes w7 vb (be (sb ss[j]).length 2 ++ sb ss[j])) := Lib.hid (Bytes.of_own' hob (by rw [List.length_append, be_length]))
      have HST7 := Lib.hid (HST.out.keep (HYK.out.trans hkb (fun _ _ e => e)))
      obtain ⟨m, hm⟩ : ∃ m, be (sb ss[j]).length 2 ++ sb ss[j] = m := ⟨_, rfl⟩
      have HLM : Hid (m.length ≤ 10) := Lib.hid (by rw [← hm, List.length_append, be_length]; omega)
      rw [hm] at HB
      have HM := Lib.hid hm
      clear cv hob hkb hm a0 a1 a2 a3 hc HST HYK
      go_wp2_with (at_builtin; refine wpList_append_bytes (by rfl) _ _ 23 5 i0 (by rfl) Try.underlying23 hi0 hz0 hz1 hz2 (w.heap.size + 1) g c y m _ (by rfl) (by rfl) HST7.out.own HB.out (by have := HLY.out; have := HLM.out; omega) (by have := HST7.out.far; omega) ?_)
      intro g8 c8 w8 ho hg hat
      have HST8 := Lib.hid (HST7.out.grow rfl ho hg)
      have HLEN : Hid (y.length + m.length = (y ++ m).length) := Lib.hid (List.length_append).symm
      have HYM : Hid (y ++ m = y5 ++ texts (ss.take (j + 1))) := Lib.hid (by rw [HSN.out, ← HYY.out, ← HM.out, List.append_assoc])
      clear ho hg hat HST7 HB
      go_wp2
      go_roundw
      case rel => exact ⟨j + 1, g8, c8, by omega, by rw [← HYM.out, HLEN.out], by go_num, by rw [← HYM.out]; exact HST8.out⟩
      case measure => simp [intOf]; omega
    · have hlt2 : ¬ (j : Int) < (ss.length : Int) := by omega
      have hjn : ss.take j = ss := List.take_of_length_le (by omega)
      rw [hjn] at HST ⊢
      obtain ⟨y, hy⟩ : ∃ y, y5 ++ texts ss = y := ⟨_, rfl⟩
      rw [hy] at HST ⊢
      have HYY := Lib.hid hy
      clear hst hjn hy
      go_wp2
      go_ret2
      refine ⟨_, rfl, ?_, HST.out.same⟩
      have hall : y = ansBytes cn nn ds ss := by rw [← HYY.out, HHD.out]; rfl
      rw [← hall]
      exact Reads.of_own HST.out.own rfl
end Go.Proofs.Ytickphkeeflbbaa
