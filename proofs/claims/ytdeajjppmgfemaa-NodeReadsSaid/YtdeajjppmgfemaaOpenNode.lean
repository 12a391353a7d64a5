/- Nodes out of an argument. -/
import Derived.Test.YtdeajjppmgfemaaNd3
import Derived.Test.YtdeajjppmgfemaaOpenPairs
import Derived.OpenShut
namespace Go.Proofs.Ytdeajjppmgfemaa
open Go.ChangeShapes Go.WideShapes Go.ChangeAt Go.RowKit Go.Deep
set_option linter.unusedVariables false

variable {H : Type} {enc : TypeId × Value → H}
theorem nd_cellsU8 : Try.prog.cellsOf 5 = 1 := by kernel_rfl
theorem nd_cellsB : Try.prog.cellsOf 29 = 1 := by kernel_rfl
theorem nd_cellsHash : Try.prog.cellsOf 44 = 32 := by kernel_rfl
theorem nd_cellsKid : Try.prog.cellsOf 46 = 33 := by kernel_rfl
theorem nd_cellsPair : Try.prog.cellsOf 54 = 2 := by kernel_rfl
theorem nd_cellsInt : Try.prog.cellsOf 3 = 1 := by kernel_rfl
theorem nd_cellsPs : Try.prog.cellsOf 22 = 1 := by kernel_rfl
theorem nd_cellsKs : Try.prog.cellsOf 23 = 1 := by kernel_rfl
theorem nd_cellsNode : Try.prog.cellsOf 25 = 3 := by kernel_rfl
theorem nd_fieldsKid : (Try.prog.fieldsOf 46).toList.map (fun f => (f.type, f.offset)) = [(29, 0), (44, 1)] := by kernel_rfl
theorem nd_kidIs : Try.prog.underlying 46 = some (.struct (Try.prog.fieldsOf 46)) := by kernel_rfl
theorem three_of {α : Type} : ∀ (l : List α), l.length = 3 → ∃ a b c, l = [a, b, c]
  | [a, b, c], _ => ⟨a, b, c, rfl⟩
theorem nd_add_add (a : Addr) (i j : Nat) : (a.add i).add j = a.add (i + j) := by
  unfold Addr.add
  by_cases h1 : i = 0 <;> by_cases h2 : j = 0 <;> simp_all <;> omega

theorem nd_u8_of_wf (n : Int) (h : (Lit.int .u8 n).wf = true) : ∃ b : UInt8, n = (b.toNat : Int) := by
  have h2 : 0 ≤ n ∧ n < 256 := by
    simp [Lit.wf] at h
    have e1 : IntKind.u8.min = 0 := by decide
    have e2 : IntKind.u8.max = 255 := by decide
    omega
  exact ⟨UInt8.ofNat n.toNat, by rw [UInt8.toNat_ofNat']; omega⟩
theorem nd_open_hash {W : World} {cs : List Value} {fuel : Nat} {x : DataW H × List MemPlace} (hf : DataW.trod enc Try.prog W 0 (fun _ => true) true fuel 44 cs = some x) :
    ∃ hd : List UInt8, hd.length = 32 ∧ cs = u8s hd := by
  obtain ⟨xs, m, _, _, hlen, hxl, hel⟩ := DataW.trod_array Try.underlying44 hf
  rw [nd_cellsHash] at hlen
  have each : ∀ i, i < 32 → ∃ b : UInt8, cs[i]? = some (.int .u8 (b.toNat : Int)) := by
    intro i hi
    have h1 := hel i hi
    rw [nd_cellsU8, Nat.mul_one, List.getElem?_eq_getElem (by omega)] at h1
    obtain ⟨n, h2, _, h3⟩ := DataW.trod_int Try.underlying5 h1
    obtain ⟨b, rfl⟩ := nd_u8_of_wf n h3
    refine ⟨b, ?_⟩
    have h4 : ((cs.drop i).take 1)[0]? = some (.int .u8 (b.toNat : Int)) := by rw [h2]; rfl
    simpa using h4
  obtain ⟨f, hf⟩ := choose_rows (0 : UInt8) each
  refine ⟨(List.range 32).map f, by simp, List.ext_getElem (by simp [u8s_length, hlen]) fun i h1 h2 => ?_⟩
  have h3 := hf i (by omega)
  rw [List.getElem?_eq_getElem h1] at h3
  simp only [u8s, List.map_map, List.getElem_map, List.getElem_range, Function.comp_apply]
  exact Option.some.inj h3

theorem open_kid_trod {W : World} {cs : List Value} {fuel : Nat} {x : DataW H × List MemPlace} (hf : DataW.trod enc Try.prog W 0 (fun _ => true) true fuel 46 cs = some x) :
    ∃ k : KidX, cs = k.cells ∧ Bytes W k.fv k.fs ∧ (∀ a n c, k.fv = .slice (some a) n c → k.fs ≠ [] → a.spot = none) ∧ k.hs.length = 32 := by
  obtain ⟨xs, m, _, _, hlen, hxs, hfd⟩ := DataW.trod_struct nd_kidIs hf
  rw [nd_cellsKid] at hlen
  have hfl : (Try.prog.fieldsOf 46).toList.length = 2 := by kernel_rfl
  have fld : ∀ (i : Nat) (t : TypeId) (o : Nat), [(29, 0), (44, 1)][i]? = some (t, o) → ∃ y, DataW.trod enc Try.prog W 0 (fun _ => true) true m t ((cs.drop o).take (Try.prog.cellsOf t)) = some y := by
    intro i t o hi
    rw [← nd_fieldsKid, List.getElem?_map] at hi
    obtain ⟨f, hf1, hf2⟩ := Option.map_eq_some_iff.1 hi
    simp only [Prod.mk.injEq] at hf2
    have h1 := hfd i f (by simpa using hf1)
    rw [hf2.1, hf2.2] at h1
    have hil : i < xs.length := by
      have := (List.getElem?_eq_some_iff.1 hf1).1
      rw [hxs]; simpa using this
    rw [List.getElem?_eq_getElem hil] at h1
    exact ⟨_, h1⟩
  obtain ⟨y0, h0⟩ := fld 0 29 0 rfl
  obtain ⟨y1, h1⟩ := fld 1 44 1 rfl
  obtain ⟨hd, hdl, hdc⟩ := nd_open_hash h1
  rw [nd_cellsHash] at hdc
  rw [nd_cellsB] at h0
  obtain ⟨c0, hc0⟩ : ∃ c0, cs[0]? = some c0 := ⟨_, List.getElem?_eq_getElem (by omega)⟩
  have e0 : (cs.drop 0).take 1 = [c0] := by
    cases cs with
    | nil => simp at hlen
    | cons a r => simp at hc0 ⊢; exact hc0
  rw [e0] at h0
  obtain ⟨bs, ao, cb, hv, hb, _, _, h5⟩ := open_bytes_trod Try.underlying29 Try.underlying5 nd_cellsU8 h0
  refine ⟨⟨c0, bs, hd⟩, ?_, hb, fun a n c e => ?_, hdl⟩
  · have e1 : cs.drop 1 = u8s hd := by rw [← hdc, List.take_of_length_le (by simp; omega)]
    cases cs with
    | nil => simp at hlen
    | cons a r =>
      simp at hc0 e1
      simp only [KidX.cells, hc0, e1]
  · simp only at e
    rw [hv] at e
    simp only [Value.slice.injEq] at e
    exact h5 a e.1

theorem open_kids_trod {W : World} {v : Value} {fuel : Nat} {x : DataW H × List MemPlace} (hf : DataW.trod enc Try.prog W 0 (fun _ => true) true fuel 23 [v] = some x) :
    ∃ ao cap ks, v = .slice ao ks.length cap ∧ Kids W ao ks ∧ ks.length ≤ cap ∧ cap ≤ maxLen := by
  rcases open_slice Try.underlying23 hf with ⟨hcs, _⟩ | ⟨a, len, cap, m, n, DD, PP, hcs, _, hl, hm, hmm, _, hx⟩
  · simp only [List.cons.injEq, and_true] at hcs
    subst hcs
    exact ⟨none, 0, [], rfl, .inl rfl, Nat.le_refl _, by unfold maxLen; omega⟩
  · simp only [List.cons.injEq, and_true] at hcs
    subst hcs
    simp only [if_true] at hmm
    subst hmm
    have each : ∀ i, i < len → ∃ k : KidX, (Bytes W k.fv k.fs ∧ (∀ a n c, k.fv = .slice (some a) n c → k.fs ≠ [] → a.spot = none) ∧ k.hs.length = 32) ∧ ∀ j u, k.cells[j]? = some u → W.cell? (a.add (i * 33 + j)) = some u := by
      intro i hi
      obtain ⟨cs', k1, k2⟩ := hx i (by omega)
      rw [nd_cellsKid] at k1
      obtain ⟨k, rfl, h1, h2, h3⟩ := open_kid_trod k2
      obtain ⟨_, hlen, hcell⟩ := World.cells?_some k1
      refine ⟨k, ⟨h1, h2, h3⟩, fun j u hu => ?_⟩
      have hj := (List.getElem?_eq_some_iff.1 hu).1
      rw [k.cells_length h3] at hj
      have := hcell j (by omega)
      rw [nd_add_add] at this
      rw [this]
      obtain ⟨h3, h4⟩ := List.getElem?_eq_some_iff.1 hu
      rw [← h4]
      simp
    obtain ⟨f, hfn⟩ := choose_rows (⟨.slice none 0 0, [], []⟩ : KidX) each
    refine ⟨some a, _, (List.range len).map f, by rw [List.length_map, List.length_range], ?_, by simp; omega, hm⟩
    by_cases hz : len = 0
    · subst hz; exact .inl rfl
    · have hsp : a.spot = none := by
        have h := (hfn 0 (by omega)).2 0 _ rfl
        have ha : a.add (0 * 33 + 0) = a := rfl
        rw [ha] at h
        cases hs : a.spot with
        | none => rfl
        | some s =>
          obtain ⟨ao, c, hk⟩ := (hfn 0 (by omega)).1.1.form
          rw [hk] at h
          simp only [World.cell?, hs] at h
          split at h <;> simp at h
      obtain ⟨g, off, spot⟩ := a
      simp only at hsp
      subst hsp
      refine .inr ⟨g, off, rfl, fun j hj => ?_⟩
      have hj' : j < len := by simpa using hj
      obtain ⟨⟨q1, q2, q3⟩, q4⟩ := hfn j hj'
      have e1 : ((List.range len).map f)[j] = f j := by simp
      rw [e1]
      refine ⟨fun i u hu => ?_, q1, q2, q3⟩
      have := q4 i u hu
      rw [add_at] at this
      rwa [Nat.add_assoc]

theorem open_pairs_trod {W : World} {v : Value} {fuel : Nat} {x : DataW H × List MemPlace} (hf : DataW.trod enc Try.prog W 0 (fun _ => true) true fuel 22 [v] = some x) :
    ∃ ao cap ps, v = .slice ao ps.length cap ∧ Pairs W ao ps ∧ ps.length ≤ cap ∧ cap ≤ maxLen := by
  rcases open_slice Try.underlying22 hf with ⟨hcs, _⟩ | ⟨a, len, cap, m, n, DD, PP, hcs, _, hl, hm, hmm, _, hx⟩
  · simp only [List.cons.injEq, and_true] at hcs
    subst hcs
    exact ⟨none, 0, [], rfl, .inl rfl, Nat.le_refl _, by unfold maxLen; omega⟩
  · simp only [List.cons.injEq, and_true] at hcs
    subst hcs
    simp only [if_true] at hmm
    subst hmm
    have each : ∀ i, i < len → ∃ p : PairX, W.cell? (a.add (i * 2)) = some p.kv ∧ W.cell? (a.add (i * 2 + 1)) = some p.vv ∧ Bytes W p.kv p.ks ∧ Bytes W p.vv p.vs ∧
        (∀ a n c, p.kv = .slice (some a) n c → p.ks ≠ [] → a.spot = none) ∧ (∀ a n c, p.vv = .slice (some a) n c → p.vs ≠ [] → a.spot = none) := by
      intro i hi
      obtain ⟨cs', k1, k2⟩ := hx i (by omega)
      rw [nd_cellsPair] at k1
      obtain ⟨xs, m, _, _, hlen, hxs, hfd⟩ := DataW.trod_struct Try.underlying54 k2
      rw [nd_cellsPair] at hlen
      obtain ⟨v0, v1, rfl⟩ : ∃ a b, cs' = [a, b] := by
        match cs', hlen with
        | [a, b], _ => exact ⟨a, b, rfl⟩
      obtain ⟨x0, x1, rfl⟩ : ∃ a b, xs = [a, b] := by
        match xs, hxs with
        | [a, b], _ => exact ⟨a, b, rfl⟩
      have f0 : DataW.trod enc Try.prog W 0 (fun _ => true) true m 29 [v0] = some x0 := by simpa [nd_cellsB] using hfd 0 _ rfl
      have f1 : DataW.trod enc Try.prog W 0 (fun _ => true) true m 29 [v1] = some x1 := by simpa [nd_cellsB] using hfd 1 _ rfl
      obtain ⟨_, hlen2, hcell⟩ := World.cells?_some k1
      obtain ⟨bs, ao, cb, hv, hb, _, _, h5⟩ := open_bytes_trod Try.underlying29 Try.underlying5 nd_cellsU8 f0
      obtain ⟨bs', ao', cb', hv', hb', _, _, h5'⟩ := open_bytes_trod Try.underlying29 Try.underlying5 nd_cellsU8 f1
      have q0 := hcell 0 (by omega)
      have q1 := hcell 1 (by omega)
      rw [nd_add_add] at q0 q1
      refine ⟨⟨v0, bs, v1, bs'⟩, by simpa using q0, by simpa using q1, hb, hb', fun a n c e => ?_, fun a n c e => ?_⟩
      · simp only at e
        rw [hv] at e
        simp only [Value.slice.injEq] at e
        exact h5 a e.1
      · simp only at e
        rw [hv'] at e
        simp only [Value.slice.injEq] at e
        exact h5' a e.1
    obtain ⟨f, hfn⟩ := choose_rows (⟨.slice none 0 0, [], .slice none 0 0, []⟩ : PairX) each
    refine ⟨some a, _, (List.range len).map f, by rw [List.length_map, List.length_range], ?_, by simp; omega, hm⟩
    by_cases hz : len = 0
    · subst hz; exact .inl rfl
    · have hsp : a.spot = none := by
        have h := (hfn 0 (by omega)).1
        have ha : a.add (0 * 2) = a := rfl
        rw [ha] at h
        cases hs : a.spot with
        | none => rfl
        | some s =>
          obtain ⟨ao, c, hk⟩ := (hfn 0 (by omega)).2.2.1.form
          rw [hk] at h
          simp only [World.cell?, hs] at h
          split at h <;> simp at h
      obtain ⟨g, off, spot⟩ := a
      simp only at hsp
      subst hsp
      refine .inr ⟨g, off, rfl, fun j hj => ?_⟩
      have hj' : j < len := by simpa using hj
      obtain ⟨q1, q2, q3, q4, q5, q6⟩ := hfn j hj'
      have e1 : ((List.range len).map f)[j] = f j := by simp
      rw [add_at] at q1 q2
      rw [e1]
      exact ⟨q1, by rw [Nat.add_assoc]; exact q2, q3, q4, q5, q6⟩

theorem open_node {W : World} {base : Nat} {v : Value} {d : DataW H} {ps : List MemPlace} (hok : Value.okWide Try.prog W .any base 25 v) (h : DataW.Trod enc Try.prog W 0 (fun _ => true) true 25 v d ps) :
    ∃ lv po pc ko kc ps ks, v = nodeV lv po (List.length ps) pc ko (List.length ks) kc ∧ NodeAt W po ko ps ks pc kc ∧ pc ≤ maxLen ∧ kc ≤ maxLen := by
  obtain ⟨cs, rfl, _⟩ := okWide_struct Try.underlying25 hok
  obtain ⟨fuel, hf⟩ := h
  obtain ⟨xs, m, _, _, hlen, hxs, hfd⟩ := DataW.trod_struct Try.underlying25 hf
  rw [nd_cellsNode] at hlen
  obtain ⟨c0, c1, c2, hcs⟩ := three_of _ hlen
  obtain ⟨x0, x1, x2, rfl⟩ := three_of xs hxs
  rw [hcs] at hfd
  have f0 : DataW.trod enc Try.prog W 0 (fun _ => true) true m 3 [c0] = some x0 := by simpa [nd_cellsInt] using hfd 0 _ rfl
  have f1 : DataW.trod enc Try.prog W 0 (fun _ => true) true m 22 [c1] = some x1 := by simpa [nd_cellsPs] using hfd 1 _ rfl
  have f2 : DataW.trod enc Try.prog W 0 (fun _ => true) true m 23 [c2] = some x2 := by simpa [nd_cellsKs] using hfd 2 _ rfl
  obtain ⟨lv, e0, _, _⟩ := DataW.trod_int Try.underlying3 f0
  obtain ⟨po, pc, qs, e1, hp, hpc, hpm⟩ := open_pairs_trod f1
  obtain ⟨ko, kc, ks, e2, hk, hkc, hkm⟩ := open_kids_trod f2
  simp only [List.cons.injEq, and_true] at e0
  subst e0; subst e1; subst e2
  have hcs' : cs = #[.int .i64 lv, .slice po qs.length pc, .slice ko ks.length kc] := by
    have := hcs
    simp [Value.cells] at this
    rw [← this]
  subst hcs'
  exact ⟨lv, po, pc, ko, kc, qs, ks, rfl, ⟨hp, hk, hpc, hkc⟩, hpm, hkm⟩
end Go.Proofs.Ytdeajjppmgfemaa
