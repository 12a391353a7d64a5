/- What a law's proof owes behind its walk: the result is true, all that was there is as it was. No program is named here. -/
import Derived.Test.YtafgiljgefeefaaDoorApp
import Derived.ProofKit
import Derived.OpenShut
import Derived.Carry
import Derived.WalkKit
namespace Go.Proofs.YtafgiljgefeefaaDoor
open Go.ChangeShapes Go.WideShapes Go.ChangeAt Go.RowKit
variable {H : Type} {enc : TypeId × Value → H} {P : Program}

/-- Types that can be read, and are rows of the table. -/
def rowed (P : Program) (ts : List TypeId) : Bool := ts.all fun t => P.readableRec t && decide (t < P.types.size)

theorem below_trodAll (hl : laidOutB P = true) {W W' : World} (hb : Below W.heap.size W W') :
    ∀ {ts : List TypeId} {vs : List Value} {ds : List (DataW H)} {ps : List MemPlace}, rowed P ts = true → (∀ x ∈ ps, x.block < W.heap.size) →
      DataW.TrodAll enc P W 0 (fun _ => true) true ts vs ds ps → DataW.TrodAll enc P W' 0 (fun b => decide (b < W.heap.size)) true ts vs ds ps
  | [], _, _, _, _, _, h => by
    obtain ⟨rfl, rfl, rfl⟩ := trodAll_nil h
    exact trodAll_mk0
  | t :: ts, _, _, _, hr, hlt, h => by
    obtain ⟨v, vs, d, ds, p, q, rfl, rfl, rfl, h1, h2⟩ := trodAll_cons h
    simp only [rowed, List.all_cons, Bool.and_eq_true, decide_eq_true_eq] at hr
    refine trodAll_cons_mk (Below.trod hl hr.1.1 hr.1.2 h1 hb fun x hx => hlt x (by simp [hx])) (below_trodAll hl hb ?_ (fun x hx => hlt x (by simp [hx])) h2)
    simpa [rowed] using hr.2

theorem post_law {f : Func} {s : ChangeSpec} {apart fresh handsOn : Bool} {W W' : World} {args : Array Value} {ds gs : List (DataW H)} {before : List MemPlace} {tb : TypeId}
    (hl : laidOutB P = true) (hr : rowed P f.params.toList = true) (hrt : f.resultTypes = #[tb]) (hu : P.underlying tb = some .bool) (hv : s.vars = [])
    (hW : DataW.Whole enc P f.params.toList s.vars apart W args.toList ds gs before) (hb : Below W.heap.size W W')
    (h1 : (s.fn H (ds ++ gs)).results = [.lit (.bool true)]) (h2 : (s.fn H (ds ++ gs)).args = ds) (h3 : (s.fn H (ds ++ gs)).vars = []) :
    s.post enc P f apart fresh handsOn false W args (.bool true) W' := by
  have hlt := hW.lt
  have hW0 := hW
  obtain ⟨p, q, hA, hV, hpq, hz, hn⟩ := hW
  rw [hv] at hV
  obtain ⟨rfl, rfl⟩ := trodVars_none hV
  refine ⟨ds, [], before, [], before, [], hW0, ?_, ?_, ?_, ?_, ?_⟩
  · rw [h1, hrt]
    exact trodAll_cons_mk (shut_bool hu _) trodAll_mk0
  · rw [h2]
    have hp : before = p := by rw [hpq, List.append_nil]
    rw [hp] at hlt ⊢
    exact below_trodAll hl hb hr hlt hA
  · rw [h3, hv]
    rfl
  · exact hb.frame _
  · intro h; cases h

/-- A []byte that lies somewhere in what is read: it reads as bytes. -/
theorem open_bytes_trod {W : World} {t e : TypeId} {v : Value} {fuel : Nat} {x : DataW H × List MemPlace} (ht : P.underlying t = some (.slice e)) (he : P.underlying e = some (.int .u8)) (hc : P.cellsOf e = 1)
    (hf : DataW.trod enc P W 0 (fun _ => true) true fuel t [v] = some x) :
    ∃ bs ao cap, v = .slice ao bs.length cap ∧ Bytes W v bs ∧ bs.length ≤ cap ∧ cap ≤ maxLen ∧ (∀ a, ao = some a → bs ≠ [] → a.spot = none) := by
  rcases open_ints ht he hc hf with ⟨hcs, hx⟩ | ⟨a, len, cap, zs, hcs, _, hl, hm, hz, hx, hcell, hwz⟩
  · simp only [List.cons.injEq, and_true] at hcs
    subst hcs
    exact ⟨[], none, 0, rfl, Bytes.nil _ _ _, Nat.le_refl _, by unfold maxLen; omega, fun _ e => by simp at e⟩
  · simp only [List.cons.injEq, and_true] at hcs
    subst hcs
    simp only [if_true] at hz
    have hlen : ((zs.take len).map fun z => UInt8.ofNat z.toNat).length = len := by simp; omega
    refine ⟨(zs.take len).map fun z => UInt8.ofNat z.toNat, some a, cap, by rw [hlen], ?_, by rw [hlen]; exact hl, hm, ?_⟩
    · refine .inl ⟨a, cap, by rw [hlen], fun j u hu => ?_⟩
      have hj : j < len := by
        have := (List.getElem?_eq_some_iff.1 hu).1
        rw [u8s_length, hlen] at this; exact this
      have hjz : j < zs.length := by omega
      rw [hcell j hjz, ← hu]
      have hb := bounds_u8 (hwz zs[j] (List.getElem_mem hjz))
      have e2 : (u8s ((zs.take len).map fun z => UInt8.ofNat z.toNat))[j]? = some (.int .u8 ((UInt8.ofNat zs[j].toNat).toNat : Int)) := by
        simp [u8s, hj, hjz]
      rw [e2, List.getD_eq_getElem?_getD, List.getElem?_eq_getElem hjz, Option.getD_some]
      have e3 : ((UInt8.ofNat zs[j].toNat).toNat : Int) = zs[j] := by
        rw [UInt8.toNat_ofNat']; omega
      rw [e3]
    · intro a' ha hb
      simp only [Option.some.injEq] at ha
      subst ha
      have h0 : 0 < zs.length := by
        rcases Nat.eq_zero_or_pos zs.length with h | h
        · exact absurd (by rw [List.length_eq_zero_iff.1 h]; simp) hb
        · exact h
      have := hcell 0 h0
      have ha : a.add 0 = a := rfl
      rw [ha] at this
      cases hs : a.spot with
      | none => rfl
      | some _ =>
        simp only [World.cell?, hs] at this
        split at this <;> simp at this

/-- A []byte argument: it reads as bytes. -/
theorem open_bytes {W : World} {base : Nat} {t e : TypeId} {v : Value} {d : DataW H} {ps : List MemPlace} (ht : P.underlying t = some (.slice e)) (he : P.underlying e = some (.int .u8)) (hc : P.cellsOf e = 1)
    (hok : Value.okWide P W .any base t v) (h : DataW.Trod enc P W 0 (fun _ => true) true t v d ps) :
    ∃ bs ao cap, v = .slice ao bs.length cap ∧ Bytes W v bs ∧ bs.length ≤ cap ∧ cap ≤ maxLen ∧ (∀ a, ao = some a → bs ≠ [] → a.spot = none) := by
  obtain ⟨a0, len, cap, rfl⟩ := okWide_slice ht hok
  obtain ⟨fuel, hf⟩ := h
  exact open_bytes_trod ht he hc (by simpa [Value.cells] using hf)
theorem four_of {α : Type} : ∀ (l : List α), l.length = 4 → ∃ a b c d, l = [a, b, c, d]
  | [a, b, c, d], _ => ⟨a, b, c, d, rfl⟩

end Go.Proofs.YtafgiljgefeefaaDoor
