/- A message out of an argument. -/
import Derived.Test.YtafgiljgefeefaaDoorFrame
import Derived.Test.YtafgiljgefeefaaDoorWm5
import Derived.Test.YtafgiljgefeefaaDoorOpen10
import Derived.OpenShut
import Derived.Deep.Slices
namespace Go.Proofs.YtafgiljgefeefaaDoor
open Go.ChangeShapes Go.WideShapes Go.ChangeAt Go.RowKit Go.Deep
set_option linter.unusedVariables false

variable {H : Type} {enc : TypeId × Value → H}
theorem wm_add_add (a : Addr) (i j : Nat) : (a.add i).add j = a.add (i + j) := by
  unfold Addr.add
  by_cases h1 : i = 0 <;> by_cases h2 : j = 0 <;> simp_all <;> omega
theorem wm_cellsHs : Tryd.prog.cellsOf 42 = 1 := by kernel_rfl
theorem wm_cellsBs : Tryd.prog.cellsOf 43 = 1 := by kernel_rfl
theorem wm_cellsMsg : Tryd.prog.cellsOf 45 = 53 := by kernel_rfl
theorem wm_cellsCall : Tryd.prog.cellsOf 37 = 8 := by kernel_rfl
theorem wm_hash : Tryd.prog.cellsOf 32 = 32 := by kernel_rfl
theorem wm_u64 : Tryd.prog.cellsOf 30 = 1 := by kernel_rfl
theorem wm_msgIs : Tryd.prog.underlying 45 = some (.struct (Tryd.prog.fieldsOf 45)) := by kernel_rfl
theorem wm_callIs : Tryd.prog.underlying 37 = some (.struct (Tryd.prog.fieldsOf 37)) := by kernel_rfl
def msgFields : List (TypeId × Nat) := [(3, 0), (3, 1), (3, 2), (30, 3), (30, 4), (30, 5), (30, 6), (32, 7), (37, 39), (41, 47), (42, 51), (43, 52)]
theorem wm_fieldsMsg : (Tryd.prog.fieldsOf 45).toList.map (fun f => (f.type, f.offset)) = msgFields := by kernel_rfl
theorem wm_fieldsCall : (Tryd.prog.fieldsOf 37).toList.map (fun f => (f.type, f.offset)) = [(3, 0), (30, 1), (35, 2)] := by kernel_rfl

theorem wm_u8_of_wf (n : Int) (h : (Lit.int .u8 n).wf = true) : ∃ b : UInt8, n = (b.toNat : Int) := by
  have h2 : 0 ≤ n ∧ n < 256 := by
    simp [Lit.wf] at h
    have e1 : IntKind.u8.min = 0 := by decide
    have e2 : IntKind.u8.max = 255 := by decide
    omega
  exact ⟨UInt8.ofNat n.toNat, by rw [UInt8.toNat_ofNat']; omega⟩
theorem wm_u64_of_wf (n : Int) (h : (Lit.int .u64 n).wf = true) : ∃ k : Nat, n = (k : Int) ∧ k < 18446744073709551616 := by
  have h2 : 0 ≤ n ∧ n < 18446744073709551616 := by
    simp [Lit.wf] at h
    have e1 : IntKind.u64.min = 0 := by decide
    have e2 : IntKind.u64.max = 18446744073709551615 := by decide
    omega
  exact ⟨n.toNat, by omega, by omega⟩

theorem wm_open_hash {W : World} {cs : List Value} {fuel : Nat} {x : DataW H × List MemPlace} (hf : DataW.trod enc Tryd.prog W 0 (fun _ => true) true fuel 32 cs = some x) :
    ∃ hd : List UInt8, hd.length = 32 ∧ cs = u8s hd := by
  obtain ⟨xs, m, _, _, hlen, hxl, hel⟩ := DataW.trod_array Tryd.underlying32 hf
  rw [wm_hash] at hlen
  have each : ∀ i, i < 32 → ∃ b : UInt8, cs[i]? = some (.int .u8 (b.toNat : Int)) := by
    intro i hi
    have h1 := hel i hi
    rw [cellsU8, Nat.mul_one, List.getElem?_eq_getElem (by omega)] at h1
    obtain ⟨n, h2, _, h3⟩ := DataW.trod_int Tryd.underlying5 h1
    obtain ⟨b, rfl⟩ := wm_u8_of_wf n h3
    refine ⟨b, ?_⟩
    have h4 : ((cs.drop i).take 1)[0]? = some (.int .u8 (b.toNat : Int)) := by rw [h2]; rfl
    simpa using h4
  obtain ⟨f, hf⟩ := choose_rows (0 : UInt8) each
  refine ⟨(List.range 32).map f, by simp, List.ext_getElem (by simp [u8s_length, hlen]) fun i h1 h2 => ?_⟩
  have h3 := hf i (by omega)
  rw [List.getElem?_eq_getElem h1] at h3
  simp only [u8s, List.map_map, List.getElem_map, List.getElem_range, Function.comp_apply]
  exact Option.some.inj h3

theorem open_hs_trod {W : World} {v : Value} {fuel : Nat} {x : DataW H × List MemPlace} (hf : DataW.trod enc Tryd.prog W 0 (fun _ => true) true fuel 42 [v] = some x) :
    ∃ ao cap hs, v = .slice ao hs.length cap ∧ Hss W ao hs ∧ hs.length ≤ cap ∧ cap ≤ maxLen := by
  rcases open_slice Tryd.underlying42 hf with ⟨hcs, _⟩ | ⟨a, len, cap, m, n, DD, PP, hcs, _, hl, hm, hmm, _, hx⟩
  · simp only [List.cons.injEq, and_true] at hcs
    subst hcs
    exact ⟨none, 0, [], rfl, ⟨fun h e => by simp at e, .inl rfl⟩, Nat.le_refl _, by unfold maxLen; omega⟩
  · simp only [List.cons.injEq, and_true] at hcs
    subst hcs
    simp only [if_true] at hmm
    subst hmm
    have each : ∀ i, i < len → ∃ h : List UInt8, h.length = 32 ∧ ∀ j u, (u8s h)[j]? = some u → W.cell? (a.add (i * 32 + j)) = some u := by
      intro i hi
      obtain ⟨cs', k1, k2⟩ := hx i (by omega)
      rw [wm_hash] at k1
      obtain ⟨h, h1, rfl⟩ := wm_open_hash k2
      obtain ⟨_, hlen, hcell⟩ := World.cells?_some k1
      refine ⟨h, h1, fun j u hu => ?_⟩
      have hj := (List.getElem?_eq_some_iff.1 hu).1
      rw [u8s_length, h1] at hj
      have := hcell j (by omega)
      rw [wm_add_add] at this
      rw [this]
      obtain ⟨h3, h4⟩ := List.getElem?_eq_some_iff.1 hu
      rw [← h4]
      simp
    obtain ⟨f, hfn⟩ := choose_rows ([] : List UInt8) each
    refine ⟨some a, _, (List.range len).map f, by rw [List.length_map, List.length_range], ⟨fun h hh => ?_, ?_⟩, by simp; omega, hm⟩
    · simp only [List.mem_map, List.mem_range] at hh
      obtain ⟨i, hi, rfl⟩ := hh
      exact (hfn i hi).1
    by_cases hz : len = 0
    · subst hz; exact .inl rfl
    · have hsp : a.spot = none := by
        have hl0 := (hfn 0 (by omega)).1
        have h := (hfn 0 (by omega)).2 0 _ (List.getElem?_eq_getElem (by rw [u8s_length, hl0]; omega))
        have ha : a.add (0 * 32 + 0) = a := rfl
        rw [ha] at h
        have hv : ∃ z, (u8s (f 0))[0]'(by rw [u8s_length, hl0]; omega) = .int .u8 z := by simp [u8s]
        obtain ⟨z, hz⟩ := hv
        rw [hz] at h
        cases hs : a.spot with
        | none => rfl
        | some s =>
          simp only [World.cell?, hs] at h
          split at h <;> simp at h
      obtain ⟨g, off, spot⟩ := a
      simp only at hsp
      subst hsp
      refine .inr ⟨g, off, rfl, fun j hj => ?_⟩
      have hj' : j < len := by simpa using hj
      obtain ⟨q1, q4⟩ := hfn j hj'
      have e1 : ((List.range len).map f)[j] = f j := by simp
      rw [e1]
      intro i u hu
      have := q4 i u hu
      rw [add_at] at this
      rwa [Nat.add_assoc]

theorem open_bs_trod {W : World} {v : Value} {fuel : Nat} {x : DataW H × List MemPlace} (hf : DataW.trod enc Tryd.prog W 0 (fun _ => true) true fuel 43 [v] = some x) :
    ∃ ao cap rs, v = .slice ao rs.length cap ∧ Rows2 W v rs ∧ rs.length ≤ cap ∧ cap ≤ maxLen ∧ ∀ r ∈ rs, Reads W r.1 r.2 := by
  rcases open_slice Tryd.underlying43 hf with ⟨hcs, _⟩ | ⟨a, len, cap, m, n, DD, PP, hcs, _, hl, hm, hmm, _, hx⟩
  · simp only [List.cons.injEq, and_true] at hcs
    subst hcs
    exact ⟨none, 0, [], rfl, .inr ⟨0, rfl, rfl⟩, Nat.le_refl _, by unfold maxLen; omega, fun r e => by simp at e⟩
  · simp only [List.cons.injEq, and_true] at hcs
    subst hcs
    simp only [if_true] at hmm
    subst hmm
    have each : ∀ i, i < len → ∃ r : Value × List UInt8, W.cell? (a.add i) = some r.1 ∧ Reads W r.1 r.2 := by
      intro i hi
      obtain ⟨cs', k1, k2⟩ := hx i (by omega)
      rw [cellsSl] at k1
      obtain ⟨_, hlen, hcell⟩ := World.cells?_some k1
      obtain ⟨c, rfl⟩ : ∃ c, cs' = [c] := by
        cases cs' with
        | nil => simp at hlen
        | cons c r =>
          cases r with
          | nil => exact ⟨c, rfl⟩
          | cons d s => simp at hlen
      obtain ⟨bs, ao, cb, hv, hb, h3, h4, h5⟩ := open_bytes_trod Tryd.underlying33 Tryd.underlying5 cellsU8 k2
      refine ⟨⟨c, bs⟩, ?_, ⟨ao, cb, hv, hb, h5, h3⟩⟩
      have := hcell 0 (by omega)
      rw [wm_add_add, Nat.mul_one, Nat.add_zero] at this
      rw [this]
      simp
    obtain ⟨f, hfn⟩ := choose_rows ((.slice none 0 0, []) : Value × List UInt8) each
    refine ⟨some a, _, (List.range len).map f, by rw [List.length_map, List.length_range], .inl ⟨a, _, by rw [List.length_map, List.length_range], fun j u hu => ?_⟩, by simp; omega, hm, fun r hr => ?_⟩
    · have hj : j < len := by
        have := (List.getElem?_eq_some_iff.1 hu).1
        simpa using this
      have : u = f j := by simpa [hj] using hu.symm
      rw [this]
      obtain ⟨h1, ao, c, e, h2, _⟩ := hfn j hj
      exact ⟨h1, h2⟩
    · simp only [List.mem_map, List.mem_range] at hr
      obtain ⟨i, hi, rfl⟩ := hr
      exact (hfn i hi).2

theorem one_take {cs : List Value} {o : Nat} {c : Value} (h : (cs.drop o).take 1 = [c]) : cs[o]? = some c := by
  have : ((cs.drop o).take 1)[0]? = some c := by rw [h]; rfl
  simpa using this
theorem take_one {cs : List Value} {o : Nat} (h : o < cs.length) : (cs.drop o).take 1 = [cs[o]] := by
  rw [List.drop_eq_getElem_cons h]; rfl

set_option maxRecDepth 100000 in
theorem open_call_trod {W : World} {cs : List Value} {fuel : Nat} {x : DataW H × List MemPlace} (hf : DataW.trod enc Tryd.prog W 0 (fun _ => true) true fuel 37 cs = some x) :
    ∃ (c : Int) (nr : Nat) (k off n : Int) (p t : ByteArray) (ao : Option Addr) (cap : Nat) (ds : List UInt8), nr < 18446744073709551616 ∧ (Lit.int .i64 c).wf = true ∧ cs = .int .i64 c :: .int .u64 nr :: [.int .i64 k, .string p, .string t, .int .i64 off, .int .i64 n, .slice ao ds.length cap] ∧ OpCells W [.int .i64 k, .string p, .string t, .int .i64 off, .int .i64 n, .slice ao ds.length cap] k off n p t ao cap ds := by
  obtain ⟨xs, m, _, _, hlen, hxs, hfd⟩ := DataW.trod_struct wm_callIs hf
  rw [wm_cellsCall] at hlen
  have fld : ∀ (i : Nat) (t : TypeId) (o : Nat), [(3, 0), (30, 1), (35, 2)][i]? = some (t, o) → ∃ y, DataW.trod enc Tryd.prog W 0 (fun _ => true) true m t ((cs.drop o).take (Tryd.prog.cellsOf t)) = some y := by
    intro i t o hi
    rw [← wm_fieldsCall, List.getElem?_map] at hi
    obtain ⟨f, hf1, hf2⟩ := Option.map_eq_some_iff.1 hi
    simp only [Prod.mk.injEq] at hf2
    have h1 := hfd i f (by simpa using hf1)
    rw [hf2.1, hf2.2] at h1
    have hil : i < xs.length := by
      have := (List.getElem?_eq_some_iff.1 hf1).1
      rw [hxs]; simpa using this
    rw [List.getElem?_eq_getElem hil] at h1
    exact ⟨_, h1⟩
  obtain ⟨y0, h0⟩ := fld 0 3 0 rfl
  obtain ⟨y1, h1⟩ := fld 1 30 1 rfl
  obtain ⟨y2, h2⟩ := fld 2 35 2 rfl
  rw [cellsInt] at h0
  rw [wm_u64] at h1
  obtain ⟨c, e0, _, w0⟩ := DataW.trod_int Tryd.underlying3 h0
  obtain ⟨z, e1, _, w1⟩ := DataW.trod_int Tryd.underlying30 h1
  obtain ⟨nr, rfl, hnr⟩ := wm_u64_of_wf z w1
  rw [cellsOp, List.take_of_length_le (by simp; omega)] at h2
  obtain ⟨k, off, n, p, t, ao, cap, ds, ho⟩ := open_op_trod h2
  have ho' := ho
  obtain ⟨e2, _⟩ := ho
  rw [e2] at ho'
  refine ⟨c, nr, k, off, n, p, t, ao, cap, ds, hnr, w0, ?_, ho'⟩
  have g0 := one_take e0
  have g1 := one_take e1
  match cs, hlen with
  | a :: b :: r, _ =>
    simp only [List.drop_succ_cons, List.drop_zero] at e2
    simp at g0 g1
    rw [g0, g1, e2]

set_option maxRecDepth 100000 in
theorem open_msg_trod {W : World} {cs : List Value} {fuel : Nat} {x : DataW H × List MemPlace} (hf : DataW.trod enc Tryd.prog W 0 (fun _ => true) true fuel 45 cs = some x) :
    ∃ m : Msg, MsgIn W m ∧ cs = m.cells := by
  obtain ⟨xs, mm, _, _, hlen, hxs, hfd⟩ := DataW.trod_struct wm_msgIs hf
  rw [wm_cellsMsg] at hlen
  have fld : ∀ (i : Nat) (t : TypeId) (o : Nat), msgFields[i]? = some (t, o) → ∃ y, DataW.trod enc Tryd.prog W 0 (fun _ => true) true mm t ((cs.drop o).take (Tryd.prog.cellsOf t)) = some y := by
    intro i t o hi
    rw [← wm_fieldsMsg, List.getElem?_map] at hi
    obtain ⟨f, hf1, hf2⟩ := Option.map_eq_some_iff.1 hi
    simp only [Prod.mk.injEq] at hf2
    have h1 := hfd i f (by simpa using hf1)
    rw [hf2.1, hf2.2] at h1
    have hil : i < xs.length := by
      have := (List.getElem?_eq_some_iff.1 hf1).1
      rw [hxs]; simpa using this
    rw [List.getElem?_eq_getElem hil] at h1
    exact ⟨_, h1⟩
  have fint : ∀ k : Nat, msgFields[k]? = some (3, k) → ∃ n : Int, cs[k]? = some (.int .i64 n) := fun k hk => by
    obtain ⟨y, hy⟩ := fld k _ k hk
    rw [cellsInt] at hy
    obtain ⟨n, h2, _, h3⟩ := DataW.trod_int Tryd.underlying3 hy
    exact ⟨n, one_take h2⟩
  have fnum : ∀ k : Nat, msgFields[k]? = some (30, k) → ∃ n : Nat, n < 18446744073709551616 ∧ cs[k]? = some (.int .u64 (n : Int)) := fun k hk => by
    obtain ⟨y, hy⟩ := fld k _ k hk
    rw [wm_u64] at hy
    obtain ⟨n, h2, _, h3⟩ := DataW.trod_int Tryd.underlying30 hy
    obtain ⟨j, rfl, hj⟩ := wm_u64_of_wf n h3
    exact ⟨j, hj, one_take h2⟩
  obtain ⟨k, g0⟩ := fint 0 rfl
  obtain ⟨f, g1⟩ := fint 1 rfl
  obtain ⟨t, g2⟩ := fint 2 rfl
  obtain ⟨v, b3, g3⟩ := fnum 3 rfl
  obtain ⟨n, b4, g4⟩ := fnum 4 rfl
  obtain ⟨g, b5, g5⟩ := fnum 5 rfl
  obtain ⟨c, b6, g6⟩ := fnum 6 rfl
  obtain ⟨y7, h7⟩ := fld 7 32 7 rfl
  obtain ⟨y8, h8⟩ := fld 8 37 39 rfl
  obtain ⟨y9, h9⟩ := fld 9 41 47 rfl
  obtain ⟨y10, h10⟩ := fld 10 42 51 rfl
  obtain ⟨y11, h11⟩ := fld 11 43 52 rfl
  rw [wm_hash] at h7
  rw [wm_cellsCall] at h8
  rw [cellsAns] at h9
  rw [wm_cellsHs, take_one (by omega)] at h10
  rw [wm_cellsBs, take_one (by omega)] at h11
  obtain ⟨hd, hdl, hdc⟩ := wm_open_hash h7
  obtain ⟨cl, nr, ok, off, on, p, q, oo, oc, od, bnr, _, hcc, hop⟩ := open_call_trod h8
  obtain ⟨ac, an, ao, no, acap, ncap, ad, ns, hac, had, hasp, halc, hacm, hns, hnlc, hncm, _⟩ := open_ans_trod h9
  obtain ⟨ho, hcap, hs, hhv, hhs, hhc, hhm⟩ := open_hs_trod h10
  obtain ⟨bo, bcap, bs, hbv, hbs, hbc, hbm, hbr⟩ := open_bs_trod h11
  obtain ⟨_, hod, hosp, holc, hocm, _⟩ := hop
  refine ⟨⟨k, f, t, v, n, g, c, hd, cl, nr, ok, p, q, off, on, oo, oc, od, ac, an, ao, acap, ad, no, ncap, ns, ho, hcap, hs, bo, bcap, bs⟩, ⟨hdl, hod, had, hns, hhs, by rw [← hbv]; exact hbs, ⟨oo, oc, rfl, hod, hosp, holc⟩, ⟨ao, acap, rfl, had, hasp, halc⟩, hbr, ?_, ⟨b3, b4, b5, b6, bnr⟩⟩, ?_⟩
  · simp only [maxLen] at *
    refine ⟨by omega, by omega, by omega, by omega, by omega, by omega, by omega, by omega⟩
  · have e1 : cs = cs.take 7 ++ ((cs.drop 7).take 32 ++ ((cs.drop 39).take 8 ++ ((cs.drop 47).take 4 ++ cs.drop 51))) := by
      have h1 : ∀ (l : List Value) (a b : Nat), l.drop a = (l.drop a).take b ++ l.drop (a + b) := fun l a b => by rw [← List.drop_drop, List.take_append_drop]
      have a1 : cs = cs.take 7 ++ cs.drop 7 := (List.take_append_drop 7 cs).symm
      have a2 : cs.drop 7 = (cs.drop 7).take 32 ++ cs.drop 39 := h1 cs 7 32
      have a3 : cs.drop 39 = (cs.drop 39).take 8 ++ cs.drop 47 := h1 cs 39 8
      have a4 : cs.drop 47 = (cs.drop 47).take 4 ++ cs.drop 51 := h1 cs 47 4
      exact a1.trans (congrArg (cs.take 7 ++ ·) (a2.trans (congrArg ((cs.drop 7).take 32 ++ ·) (a3.trans (congrArg ((cs.drop 39).take 8 ++ ·) a4)))))
    have e2 : cs.take 7 = [.int .i64 k, .int .i64 f, .int .i64 t, .int .u64 v, .int .u64 n, .int .u64 g, .int .u64 c] := by
      apply List.ext_getElem?
      intro i
      rw [List.getElem?_take]
      by_cases hi : i < 7
      · rw [if_pos hi]
        match i, hi with
        | 0, _ => exact g0
        | 1, _ => exact g1
        | 2, _ => exact g2
        | 3, _ => exact g3
        | 4, _ => exact g4
        | 5, _ => exact g5
        | 6, _ => exact g6
      · rw [if_neg hi, List.getElem?_eq_none (by simp; omega)]
    have e3 : cs.drop 51 = [.slice ho hs.length hcap, .slice bo bs.length bcap] := by
      rw [List.drop_eq_getElem_cons (by omega), List.drop_eq_getElem_cons (by omega), List.drop_of_length_le (by omega), hhv, hbv]
    rw [e1, e2, hdc, hcc, hac, e3]
    rfl
set_option maxRecDepth 100000 in
theorem open_msg {W : World} {base : Nat} {v : Value} {d : DataW H} {ps : List MemPlace} (hok : Value.okWide Tryd.prog W .any base 45 v) (h : DataW.Trod enc Tryd.prog W 0 (fun _ => true) true 45 v d ps) :
    ∃ m : Msg, MsgIn W m ∧ v = .agg m.cells.toArray := by
  obtain ⟨cs, rfl, _⟩ := okWide_struct wm_msgIs hok
  obtain ⟨fuel, hf⟩ := h
  obtain ⟨m, h1, h2⟩ := open_msg_trod hf
  refine ⟨m, h1, ?_⟩
  rw [← h2]
  simp [Value.cells]
end Go.Proofs.YtafgiljgefeefaaDoor
