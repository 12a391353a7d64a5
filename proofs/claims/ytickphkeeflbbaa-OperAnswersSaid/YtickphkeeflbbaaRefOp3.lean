/- The document's own bytes of an operation: its Write. -/
import Derived.Test.YtickphkeeflbbaaRefOp2
import Derived.Test.YtickphkeeflbbaaPlan4
namespace Go.Proofs.Ytickphkeeflbbaa
open Go.RowKit
set_option linter.unusedVariables false

set_option maxRecDepth 100000 in
set_option maxHeartbeats 1600000 in
theorem refWrite_no (k off n : Int) (p t : ByteArray) (ao : Option Addr) (len cap : Nat) (w : World) (h : ¬ OpRight k off n p t len) :
    Calls Try.prog 11 #[opVal k off n p t (.slice ao len cap)] w fun e w' => ∃ g, e = .returned (.tuple #[.slice (some ⟨g, 0, none⟩) 0 0, .int .i64 1]) ∧ Same w w' := by
  go_enter Try.func11, Try.ntmps11
  go_wp2_with fail
  ((with_reducible refine (refRight_ok k off n p t ao len cap _).mono ?_); rintro e w1 ⟨rfl, hk1⟩)
  rw [decide_eq_false h]
  have HK := Lib.hid hk1
  clear hk1
  go_wp2
  go_ret2
  exact ⟨_, rfl, (((Keeps.refl _ _).alloc _).trans HK.out (fun _ _ e => e)).alloc _⟩

/-- What stands where the document's Write writes. -/
structure WSt (w w' : World) (six : Array Value) (g cap : Nat) (xs : List UInt8) : Prop where
  op : w'.heap[w.heap.size]? = some (.cells six 25 (0, 0))
  own : w'.ownsRow (w.heap.size + 1) 5 1 (.slice (some ⟨g, 0, none⟩) xs.length cap) xs.length (u8s xs)
  same : Same w w'
theorem WSt.far {w w' : World} {six : Array Value} {g cap : Nat} {xs : List UInt8} (h : WSt w w' six g cap xs) : w.heap.size < g ∧ w.heap.size < w'.heap.size := ⟨by have := (h.own.lt g rfl).1; omega, lt_of_block h.op⟩
theorem WSt.keep {w w' w'' : World} {six : Array Value} {g cap : Nat} {xs : List UInt8} (h : WSt w w' six g cap xs) (k : Same w' w'') : WSt w w'' six g cap xs := ⟨k.obj h.op (fun e => e), own_keeps k h.own (fun _ _ e => e), h.same.trans k (fun _ _ e => e)⟩
theorem WSt.grow {w w' w'' : World} {six : Array Value} {g cap g' cap' n : Nat} {xs more : List UInt8} (h : WSt w w' six g cap xs) (hn : n = xs.length + more.length) (ho : w''.ownsRow (w.heap.size + 1) 5 1 (.slice (some ⟨g', 0, none⟩) n cap') n (u8s (xs ++ more))) (hg : w'.grownBy w'' (some g)) :
    WSt w w'' six g' cap' (xs ++ more) := by
  have hf := h.far
  have hk : Keeps (fun q => q = g) w' w'' := (Keeps.refl _ _).grown hg (fun k e _ => by simp only [Option.some.injEq] at e; exact e.symm)
  refine ⟨hk.obj h.op (by omega), ?_, h.same.trans hk (fun q hq e => by omega)⟩
  rw [List.length_append, ← hn]
  exact ho

set_option maxRecDepth 100000 in
set_option maxHeartbeats 6400000 in
theorem refWrite_yes (k off n : Int) (p t : ByteArray) (ao : Option Addr) (cap : Nat) (ds : List UInt8) (w : World) (h : OpRight k off n p t ds.length) (hx : Bytes w (.slice ao ds.length cap) ds) :
    Calls Try.prog 11 #[opVal k off n p t (.slice ao ds.length cap)] w fun e w' => ∃ v, e = .returned (.tuple #[v, .int .i64 0]) ∧
      Reads w' v (opBytes k off n p t ds) ∧ Same w w' := by
  obtain ⟨i0, hi0, hz0, hz1, hz2⟩ := info_parts Try.info5
  obtain ⟨r1, r2, r3, r4, ⟨r5, r6⟩, ⟨r7, r8⟩, r9⟩ := h
  obtain ⟨kn, rfl⟩ := Int.eq_ofNat_of_zero_le (show (0 : Int) ≤ k by omega)
  obtain ⟨fn, rfl⟩ := Int.eq_ofNat_of_zero_le r5
  obtain ⟨nn, rfl⟩ := Int.eq_ofNat_of_zero_le r7
  have hsp := sb_length p
  have hst := sb_length t
  have HX := Lib.hid hx
  clear hx
  go_enter Try.func11, Try.ntmps11
  go_wp2_with fail
  ((with_reducible refine (refRight_ok kn fn nn p t ao ds.length cap _).mono ?_); rintro e w1 ⟨rfl, hk1⟩)
  rw [decide_eq_true (show OpRight kn fn nn p t ds.length from ⟨r1, r2, r3, r4, ⟨r5, r6⟩, ⟨r7, r8⟩, r9⟩)]
  have hb1 : w1.heap[w.heap.size]? = some (.cells #[.int .i64 kn, .string p, .string t, .int .i64 fn, .int .i64 nn, .slice ao ds.length cap] 25 (0, 0)) := hk1.obj (heap_alloc_new w _) (fun e => e)
  have hs1 : Same w w1 := ((Keeps.refl _ _).alloc _).trans hk1 (fun _ _ e => e)
  have HB1 := Lib.hid hb1
  have HK1 := Lib.hid hs1
  have hz1' : w.heap.size < w1.heap.size := lt_of_block hb1
  clear hb1 hk1 hs1
  go_wp2_with fail
  have u1 : IntKind.u8.wrap (kn : Int) = kn := by have := IntWalk.u8_in (kn : Int) (by omega); exact this
  have hcell : ∀ w', Same w1 w' → w'.cell? ⟨w.heap.size, 0, none⟩ = some (.int .i64 kn) ∧ w'.cell? ⟨w.heap.size, 1, none⟩ = some (.string p) ∧ w'.cell? ⟨w.heap.size, 2, none⟩ = some (.string t) ∧ w'.cell? ⟨w.heap.size, 3, none⟩ = some (.int .i64 fn) ∧ w'.cell? ⟨w.heap.size, 4, none⟩ = some (.int .i64 nn) ∧ w'.cell? ⟨w.heap.size, 5, none⟩ = some (.slice ao ds.length cap) :=
    fun w' k => cell_of_six (k.obj HB1.out (fun e => e))
  have HCELL := Lib.hid hcell
  have hbk : u8s (be kn 1) = [.int .u8 (kn : Nat)] := by
    have h1 := byte_of kn (by omega)
    have h2 : be kn 1 = [UInt8.ofNat kn] := by simp [be]
    rw [h2]
    simp only [u8s, List.map_cons, List.map_nil, h1]
  have HBK := Lib.hid hbk
  clear hcell hbk
  refine wp_region_tail [[], [0], [1], [2], [], [4], [5], [3, 6, 6], [7, 7, 0, 1, 2, 3, 4, 5, 6, 7]]
    [some 9, some 10, some 11, some 12, some 13, some 14, some 15, some 16, some 4]
    [.is (.pointer (some ⟨w.heap.size, 0, none⟩)), .is (.int .i64 kn), .is (.int .u8 kn), .own 5 (be kn 1), .is (.pointer (some ⟨w.heap.size, 3, none⟩)), .is (.int .i64 fn), .own 5 (be fn 2)]
    (fun _ => False) [] (fun _ _ => True) 3 _ _ 39 7 9 (by kernel_rfl) (by rfl) (by rfl) (by omega) (by kernel_rfl) (by kernel_rfl) (by decide) (by decide) (fun _ e => e.elim) trivial (fun _ _ _ h _ => h) ?_ ?_
  · refine ⟨?_, ?_, ?_, ?_, ?_, ?_, ?_, trivial⟩
    · intro a w' K hk hdep hfr hK
      have f1 := hfr 1 (by decide)
      exact plan_do (by rfl) (plan_yield (i := 0) (V := fun _ _ v => v = (.pointer (some ⟨w.heap.size, 0, none⟩) : Value)) (.pointer (some ⟨w.heap.size, 0, none⟩)) (by go_simp) rfl hK)
    · intro a w' K hk hdep hfr hK
      have e9 : a.tmps[9]?.getD undef = .pointer (some ⟨w.heap.size, 0, none⟩) := hdep 0 (by decide) 9 rfl
      have c0 := (HCELL.out w' hk).1
      exact plan_do (by rfl) (plan_yield (i := 1) (V := fun _ _ v => v = (.int .i64 kn : Value)) (.int .i64 kn) (by go_simp) rfl hK)
    · intro a w' K hk hdep hfr hK
      have e10 : a.tmps[10]?.getD undef = .int .i64 kn := hdep 1 (by decide) 10 rfl
      exact plan_do (by rfl) (plan_yield (i := 2) (V := fun _ _ v => v = (.int .u8 kn : Value)) (.int .u8 kn) (by go_simp) rfl hK)
    · intro a w' K hk hdep hfr hK
      have e11 : a.tmps[11]?.getD undef = .int .u8 kn := hdep 2 (by decide) 11 rfl
      refine plan_do (by rfl) (plan_go (.slice (some ⟨w'.heap.size, 0, none⟩) 1 1) (w'.alloc (.cells #[.int .u8 kn] 5)) (by go_simp) (hK _ _ ((Keeps.refl _ _).alloc _) ⟨w'.heap.size, 1, rfl, ?_⟩))
      have h1 := own_lit w' 5 (u8s (be kn 1)) 1 (by rw [u8s_length, be_length]) (by omega)
      have h2 : (u8s (be kn 1)).toArray = #[.int .u8 (kn : Nat)] := by rw [HBK.out]
      rw [h2] at h1
      exact own_base h1 hk.size
    · intro a w' K hk hdep hfr hK
      have f1 := hfr 1 (by decide)
      exact plan_do (by rfl) (plan_yield (i := 4) (V := fun _ _ v => v = (.pointer (some ⟨w.heap.size, 3, none⟩) : Value)) (.pointer (some ⟨w.heap.size, 3, none⟩)) (by go_simp) rfl hK)
    · intro a w' K hk hdep hfr hK
      have e13 : a.tmps[13]?.getD undef = .pointer (some ⟨w.heap.size, 3, none⟩) := hdep 4 (by decide) 13 rfl
      have c3 := (HCELL.out w' hk).2.2.2.1
      exact plan_do (by rfl) (plan_yield (i := 5) (V := fun _ _ v => v = (.int .i64 fn : Value)) (.int .i64 fn) (by go_simp) rfl hK)
    · intro a w' K hk hdep hfr hK
      have e14 : a.tmps[14]?.getD undef = .int .i64 fn := hdep 5 (by decide) 14 rfl
      refine plan_do (by rfl) (plan_call 28 #[.int .i64 fn] (by go_simp) ?_)
      exact (two_ok fn w' (by omega)).mono fun e w'' ⟨g, he, ho, hk2⟩ => ⟨_, he, hK _ _ hk2 ⟨g, 2, rfl, own_base ho hk.size⟩⟩
  intro a w2 hk hdef hsz hv hfr _
  obtain ⟨g1, c1, e12, ho12⟩ : ∃ g cap, a.tmps[12]?.getD undef = .slice (some ⟨g, 0, none⟩) (be kn 1).length cap ∧ w2.ownsRow w1.heap.size 5 1 (.slice (some ⟨g, 0, none⟩) (be kn 1).length cap) (be kn 1).length (u8s (be kn 1)) := hv 3 12 (by omega) rfl
  obtain ⟨g2, c2, e15, ho15⟩ : ∃ g cap, a.tmps[15]?.getD undef = .slice (some ⟨g, 0, none⟩) (be fn 2).length cap ∧ w2.ownsRow w1.heap.size 5 1 (.slice (some ⟨g, 0, none⟩) (be fn 2).length cap) (be fn 2).length (u8s (be fn 2)) := hv 6 15 (by omega) rfl
  have he := act_eq a _ [some 9, some 10, some 11, some 12, some 13, some 14, some 15, some 16, some 4] 39 rfl hsz hdef hfr (fun d => a.tmps[d]?.getD undef) (fun _ _ => rfl)
  obtain ⟨v9, h9⟩ : ∃ v, a.tmps[9]?.getD undef = v := ⟨_, rfl⟩
  obtain ⟨v10, h10⟩ : ∃ v, a.tmps[10]?.getD undef = v := ⟨_, rfl⟩
  obtain ⟨v11, h11⟩ : ∃ v, a.tmps[11]?.getD undef = v := ⟨_, rfl⟩
  obtain ⟨v13, h13⟩ : ∃ v, a.tmps[13]?.getD undef = v := ⟨_, rfl⟩
  obtain ⟨v14, h14⟩ : ∃ v, a.tmps[14]?.getD undef = v := ⟨_, rfl⟩
  obtain ⟨v16, h16⟩ : ∃ v, a.tmps[16]?.getD undef = v := ⟨_, rfl⟩
  obtain ⟨v4, h4⟩ : ∃ v, a.tmps[4]?.getD undef = v := ⟨_, rfl⟩
  simp only [putAll, h9, h10, h11, e12, h13, h14, e15, h16, h4, List.setIfInBounds_toArray, List.set_cons_zero, List.set_cons_succ] at he
  clear h9 h10 h11 e12 h13 h14 e15 h16 h4 hdef hsz hv hfr
  subst he
  have hst2 : WSt w w2 #[.int .i64 kn, .string p, .string t, .int .i64 fn, .int .i64 nn, .slice ao ds.length cap] g1 c1 (be kn 1) := ⟨hk.obj HB1.out (fun e => e), own_base ho12 (by omega), HK1.out.trans hk (fun _ _ e => e)⟩
  have HST2 := Lib.hid hst2
  have HA2 := Lib.hid (Bytes.of_own ho15)
  have hbb : (be kn 1).length = 1 := be_length _ _
  have HCELL2 : Hid (∀ w', Same w2 w' → w'.cell? ⟨w.heap.size, 0, none⟩ = some (.int .i64 kn) ∧ w'.cell? ⟨w.heap.size, 1, none⟩ = some (.string p) ∧ w'.cell? ⟨w.heap.size, 2, none⟩ = some (.string t) ∧ w'.cell? ⟨w.heap.size, 3, none⟩ = some (.int .i64 fn) ∧ w'.cell? ⟨w.heap.size, 4, none⟩ = some (.int .i64 nn) ∧ w'.cell? ⟨w.heap.size, 5, none⟩ = some (.slice ao ds.length cap)) := Lib.hid (fun w' k => cell_of_six (k.obj HST2.out.op (fun e => e)))
  clear hst2 ho12 ho15 hk HCELL
  obtain ⟨x1, hx1⟩ : ∃ x1, be kn 1 = x1 := ⟨_, rfl⟩
  obtain ⟨x2, hx2⟩ : ∃ x2, be fn 2 = x2 := ⟨_, rfl⟩
  rw [hx1] at HST2 HBK hbb ⊢
  rw [hx2] at HA2 ⊢
  have HX1 := Lib.hid hx1
  have HX2 := Lib.hid hx2
  have HL1 : Hid (x1.length = 1) := Lib.hid hbb
  have HL2 : Hid (x2.length = 2) := Lib.hid (by rw [← hx2]; exact be_length _ _)
  clear hx1 hx2 hbb
  refine (wpList_append_bytes (by rfl) _ _ 23 5 i0 (by rfl) Try.underlying23 hi0 hz0 hz1 hz2 (w.heap.size + 1) g1 c1 x1 x2 _ (by rfl) (by rfl) HST2.out.own HA2.out (by rw [HL1.out, HL2.out]; omega) (by have := HST2.out.far; omega) ?_)
  intro g3 c3 w3 ho3 hg3 hat3
  have hst3 := HST2.out.grow rfl ho3 hg3
  have hlen3 : x1.length + x2.length = (x1 ++ x2).length := (List.length_append).symm
  rw [hlen3]
  obtain ⟨y3, hy3⟩ : ∃ y, x1 ++ x2 = y := ⟨_, rfl⟩
  rw [hy3] at hst3 ⊢
  have HST3 := Lib.hid hst3
  have HY3 := Lib.hid hy3
  have HLY3 : Hid (y3.length = 3) := Lib.hid (by rw [← hy3, List.length_append, HL1.out, HL2.out])
  clear hst3 ho3 hg3 hat3 hlen3 hy3 HST2 HA2 HCELL2 HBK HL1 HL2
  obtain ⟨a0, a1, a2, a3, a4, a5⟩ := cell_of_six HST3.out.op
  go_wp2_with fail
  ((with_reducible refine (two_ok nn _ (by omega)).mono ?_); rintro e w13 ⟨gb, rfl, hob, hkb⟩)
  have HB : Hid (Bytes w13 (.slice (some ⟨gb, 0, none⟩) 2 2) (be nn 2)) := Lib.hid (Bytes.of_own' hob (be_length _ _))
  have hkb' : Same w3 w13 := hkb
  obtain ⟨m13, hm⟩ : ∃ m, be nn 2 = m := ⟨_, rfl⟩
  have HLM : Hid (m13.length = 2) := Lib.hid (by rw [← hm]; exact be_length _ _)
  have HSTB := Lib.hid (HST3.out.keep hkb')
  rw [hm] at HB
  have HM13 := Lib.hid hm
  clear hob hkb hkb' hm a0 a1 a2 a3 a4 a5
  go_wp2_with (at_builtin; refine wpList_append_bytes (by rfl) _ _ 23 5 i0 (by rfl) Try.underlying23 hi0 hz0 hz1 hz2 (w.heap.size + 1) g3 c3 y3 m13 _ (by rfl) (by rfl) HSTB.out.own HB.out (by rw [HLY3.out, HLM.out]; omega) (by have := HSTB.out.far; omega) ?_)
  intro g4 c4 w4 ho hg hat
  have hst := HSTB.out.grow rfl ho hg
  have hlen : y3.length + m13.length = (y3 ++ m13).length := (List.length_append).symm
  rw [hlen]
  obtain ⟨y4, hy⟩ : ∃ y, y3 ++ m13 = y := ⟨_, rfl⟩
  rw [hy] at hst ⊢
  have HST4 := Lib.hid hst
  have HY4 := Lib.hid hy
  have HLY4 : Hid (y4.length = 3 + (2)) := Lib.hid (by rw [← hy, List.length_append, HLY3.out, HLM.out])
  clear hst ho hg hat hlen hy HST3 HB HLM HSTB HLY3
  obtain ⟨a0, a1, a2, a3, a4, a5⟩ := cell_of_six HST4.out.op
  have hyk := bytesWorld_keeps (Keeps.refl (fun _ => False) w4) 5 p
  have cv := Lib.run_convert_string_bytes (P := Try.prog) w4 9 23 5 p Try.underlying9 Try.underlying23 Try.underlying5
  have HYK := Lib.hid hyk
  clear hyk
  go_wp2_with fail
  ((with_reducible refine (text10_ok _ (sb p) _ (bytesWorld_bytes _ _ _ _ _ (sb_length _).symm) (by omega)).mono ?_); rintro e w14 ⟨vb, rfl, hob, hkb⟩)
  clear cv
  have HB : Hid (Bytes w14 vb (be (sb p).length 2 ++ sb p)) := Lib.hid (Bytes.of_own' hob (by rw [List.length_append, be_length]))
  have hkb' : Same w4 w14 := HYK.out.trans hkb (fun _ _ e => e)
  obtain ⟨m14, hm⟩ : ∃ m, be (sb p).length 2 ++ sb p = m := ⟨_, rfl⟩
  have HLM : Hid (m14.length = 2 + (sb p).length) := Lib.hid (by rw [← hm, List.length_append, be_length])
  have HSTB := Lib.hid (HST4.out.keep hkb')
  rw [hm] at HB
  have HM14 := Lib.hid hm
  clear hob hkb hkb' hm a0 a1 a2 a3 a4 a5
  go_wp2_with (at_builtin; refine wpList_append_bytes (by rfl) _ _ 23 5 i0 (by rfl) Try.underlying23 hi0 hz0 hz1 hz2 (w.heap.size + 1) g4 c4 y4 m14 _ (by rfl) (by rfl) HSTB.out.own HB.out (by rw [HLY4.out, HLM.out]; omega) (by have := HSTB.out.far; omega) ?_)
  intro g5 c5 w5 ho hg hat
  have hst := HSTB.out.grow rfl ho hg
  have hlen : y4.length + m14.length = (y4 ++ m14).length := (List.length_append).symm
  rw [hlen]
  obtain ⟨y5, hy⟩ : ∃ y, y4 ++ m14 = y := ⟨_, rfl⟩
  rw [hy] at hst ⊢
  have HST5 := Lib.hid hst
  have HY5 := Lib.hid hy
  have HLY5 : Hid (y5.length = (3 + (2)) + (2 + (sb p).length)) := Lib.hid (by rw [← hy, List.length_append, HLY4.out, HLM.out])
  clear hst ho hg hat hlen hy HST4 HB HLM HSTB HLY4 HYK
  obtain ⟨a0, a1, a2, a3, a4, a5⟩ := cell_of_six HST5.out.op
  have hyk := bytesWorld_keeps (Keeps.refl (fun _ => False) w5) 5 t
  have cv := Lib.run_convert_string_bytes (P := Try.prog) w5 9 23 5 t Try.underlying9 Try.underlying23 Try.underlying5
  have HYK := Lib.hid hyk
  clear hyk
  go_wp2_with fail
  ((with_reducible refine (text10_ok _ (sb t) _ (bytesWorld_bytes _ _ _ _ _ (sb_length _).symm) (by omega)).mono ?_); rintro e w15 ⟨vb, rfl, hob, hkb⟩)
  clear cv
  have HB : Hid (Bytes w15 vb (be (sb t).length 2 ++ sb t)) := Lib.hid (Bytes.of_own' hob (by rw [List.length_append, be_length]))
  have hkb' : Same w5 w15 := HYK.out.trans hkb (fun _ _ e => e)
  obtain ⟨m15, hm⟩ : ∃ m, be (sb t).length 2 ++ sb t = m := ⟨_, rfl⟩
  have HLM : Hid (m15.length = 2 + (sb t).length) := Lib.hid (by rw [← hm, List.length_append, be_length])
  have HSTB := Lib.hid (HST5.out.keep hkb')
  rw [hm] at HB
  have HM15 := Lib.hid hm
  clear hob hkb hkb' hm a0 a1 a2 a3 a4 a5
  go_wp2_with (at_builtin; refine wpList_append_bytes (by rfl) _ _ 23 5 i0 (by rfl) Try.underlying23 hi0 hz0 hz1 hz2 (w.heap.size + 1) g5 c5 y5 m15 _ (by rfl) (by rfl) HSTB.out.own HB.out (by rw [HLY5.out, HLM.out]; omega) (by have := HSTB.out.far; omega) ?_)
  intro g6 c6 w6 ho hg hat
  have hst := HSTB.out.grow rfl ho hg
  have hlen : y5.length + m15.length = (y5 ++ m15).length := (List.length_append).symm
  rw [hlen]
  obtain ⟨y6, hy⟩ : ∃ y, y5 ++ m15 = y := ⟨_, rfl⟩
  rw [hy] at hst ⊢
  have HST6 := Lib.hid hst
  have HY6 := Lib.hid hy
  have HLY6 : Hid (y6.length = ((3 + (2)) + (2 + (sb p).length)) + (2 + (sb t).length)) := Lib.hid (by rw [← hy, List.length_append, HLY5.out, HLM.out])
  clear hst ho hg hat hlen hy HST5 HB HLM HSTB HLY5 HYK
  obtain ⟨a0, a1, a2, a3, a4, a5⟩ := cell_of_six HST6.out.op
  go_wp2_with fail
  ((with_reducible refine (text10_ok _ ds _ (HX.out.same HST6.out.same) (by omega)).mono ?_); rintro e w16 ⟨vb, rfl, hob, hkb⟩)
  have HB : Hid (Bytes w16 vb (be ds.length 2 ++ ds)) := Lib.hid (Bytes.of_own' hob (by rw [List.length_append, be_length]))
  have hkb' : Same w6 w16 := hkb
  obtain ⟨m16, hm⟩ : ∃ m, be ds.length 2 ++ ds = m := ⟨_, rfl⟩
  have HLM : Hid (m16.length = 2 + ds.length) := Lib.hid (by rw [← hm, List.length_append, be_length])
  have HSTB := Lib.hid (HST6.out.keep hkb')
  rw [hm] at HB
  have HM16 := Lib.hid hm
  clear hob hkb hkb' hm a0 a1 a2 a3 a4 a5
  go_wp2_with (at_builtin; refine wpList_append_bytes (by rfl) _ _ 23 5 i0 (by rfl) Try.underlying23 hi0 hz0 hz1 hz2 (w.heap.size + 1) g6 c6 y6 m16 _ (by rfl) (by rfl) HSTB.out.own HB.out (by rw [HLY6.out, HLM.out]; omega) (by have := HSTB.out.far; omega) ?_)
  intro g7 c7 w7 ho hg hat
  have hst := HSTB.out.grow rfl ho hg
  have hlen : y6.length + m16.length = (y6 ++ m16).length := (List.length_append).symm
  rw [hlen]
  obtain ⟨y7, hy⟩ : ∃ y, y6 ++ m16 = y := ⟨_, rfl⟩
  rw [hy] at hst ⊢
  have HST7 := Lib.hid hst
  have HY7 := Lib.hid hy
  have HLY7 : Hid (y7.length = (((3 + (2)) + (2 + (sb p).length)) + (2 + (sb t).length)) + (2 + ds.length)) := Lib.hid (by rw [← hy, List.length_append, HLY6.out, HLM.out])
  clear hst ho hg hat hlen hy HST6 HB HLM HSTB HLY6
  go_wp2
  go_ret2
  refine ⟨_, rfl, ?_, HST7.out.same⟩
  have hall : y7 = opBytes kn fn nn p t ds := by
    rw [← HY7.out, ← HY6.out, ← HY5.out, ← HY4.out, ← HY3.out, ← HM16.out, ← HM15.out, ← HM14.out, ← HM13.out, ← HX1.out, ← HX2.out]
    simp [opBytes, List.append_assoc]
  rw [← hall]
  exact Reads.of_own HST7.out.own rfl
end Go.Proofs.Ytickphkeeflbbaa
