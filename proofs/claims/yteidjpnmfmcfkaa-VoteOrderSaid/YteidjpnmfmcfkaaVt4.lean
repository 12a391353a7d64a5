/- The state of a choice among votes; a set of nodes as a map; majorities. -/
import Derived.Test.YteidjpnmfmcfkaaVt3
import Derived.Test.YteidjpnmfmcfkaaWhole
import Derived.Maps.Own
import Derived.Maps.OwnSet
namespace Go.Proofs.Yteidjpnmfmcfkaa
open Go.RowKit Go.Maps
set_option linter.unusedVariables false

def vote0 : VoteX := ⟨0, 0, 0, 0, 0, List.replicate 32 0⟩
structure CS where
  best : Option VoteX
  commit : Int
  nodes : List Int
def CS.up (o : Option VoteX) (v : VoteX) : VoteX := match o with | none => v | some b => if above v b = true then v else b
def CS.step (view : Int) (s : CS) (v : VoteX) : CS :=
  if v.view = view then ⟨some (CS.up s.best v), if s.commit < v.commit then v.commit else s.commit, if v.node ∈ s.nodes then s.nodes else s.nodes ++ [v.node]⟩ else s
def csOf (view : Int) (vs : List VoteX) : CS := vs.foldl (CS.step view) ⟨none, 0, []⟩
theorem csOf_snoc {view : Int} {vs : List VoteX} {j : Nat} {v : VoteX} (h : vs[j]? = some v) : csOf view (vs.take (j + 1)) = (csOf view (vs.take j)).step view v := by
  unfold csOf
  rw [List.take_add_one, h, List.foldl_append]
  rfl
/-- What every state of a choice keeps. -/
structure CS.good (s : CS) (n : Nat) : Prop where
  len : s.nodes.length ≤ n
  none : s.best = none ↔ s.nodes = []
  head : ∀ b, s.best = some b → b.head.length = 32
theorem good_zero : CS.good ⟨none, 0, []⟩ 0 := ⟨by simp, by simp, fun b h => by simp at h⟩
theorem CS.good.step {s : CS} {n : Nat} {view : Int} {v : VoteX} (h : s.good n) (hv : v.head.length = 32) : (s.step view v).good (n + 1) := by
  unfold CS.step
  split
  · refine ⟨?_, ?_, ?_⟩
    · have := h.len
      simp only
      split
      · omega
      · simp; omega
    · simp only
      constructor
      · intro e; simp at e
      · intro e
        split at e
        · rename_i hm; rw [e] at hm; simp at hm
        · simp at e
    · intro b hb
      simp only [Option.some.injEq] at hb
      subst hb
      unfold CS.up
      split
      · exact hv
      · rename_i b hb
        split
        · exact hv
        · exact h.head b hb
  · exact ⟨by have := h.len; omega, h.none, h.head⟩
theorem good_of (view : Int) (vs : List VoteX) (hv : ∀ v ∈ vs, v.head.length = 32) : ∀ j, j ≤ vs.length → (csOf view (vs.take j)).good j
  | 0, _ => by simpa [csOf] using good_zero
  | j + 1, hj => by
    have h1 := good_of view vs hv j (by omega)
    rw [csOf_snoc (List.getElem?_eq_getElem (show j < vs.length by omega))]
    exact h1.step (hv _ (List.getElem_mem _))
def CS.row (s : CS) : VoteX := s.best.getD vote0
theorem CS.row_head {s : CS} {n : Nat} (h : s.good n) : s.row.head.length = 32 := by
  unfold CS.row
  cases hb : s.best with
  | none => rfl
  | some b => exact h.head b hb

/-- A map is a set of nodes. -/
def MapN (w : World) (M n : Nat) (l : List Int) : Prop := ∃ D : DataW Unit, w.ownsMap Try.prog 3 unitElem M n D ∧ Maps.size D = l.length ∧ ∀ x, Maps.has D (.int .i64 x) = decide (x ∈ l)
theorem MapN.keep {S : Nat → Prop} {w w' : World} {M n : Nat} {l : List Int} (h : MapN w M n l) (k : Keeps S w w') (hM : ¬ S M) : MapN w' M n l := by
  obtain ⟨D, ⟨es, clock, hb, r⟩, h2⟩ := h
  exact ⟨D, ⟨es, clock, k.obj hb hM, r⟩, h2⟩
theorem MapN.made (w : World) : MapN (w.alloc (.map #[] 0)) w.heap.size 0 [] := ⟨.map [], World.ownsMap_made _ _ _ _, rfl, fun x => by simp [Maps.has]⟩
theorem MapN.len {w : World} {M n : Nat} {l : List Int} (h : MapN w M n l) (ty : TypeId) : (Builtin.len_ #[44] ty #[.map (some M)]).run Try.prog w = .ok (.int .i64 l.length) w := by
  obtain ⟨D, h1, h2, _⟩ := h
  rw [h1.len Try.underlying44, h2]
theorem MapN.put {w : World} {M n : Nat} {l : List Int} (h : MapN w M n l) (hn : n < maxLen) (x : Int) (hx : (Lit.int .i64 x).wf = true) :
    ∃ w', (Instr.mapUpdate 44 (.map (some M)) (.int .i64 x) (.agg #[])).run Try.prog w = .ok () w' ∧ MapN w' M (n + 1) (if x ∈ l then l else l ++ [x]) ∧ Keeps (fun q => q = M) w w' := by
  obtain ⟨D, h1, h2, h3⟩ := h
  have K : Keyed Try.prog 3 := int_keyed Try.underlying3
  obtain ⟨w', hrun, hown, hg⟩ := h1.update K Try.underlying44 hn (keyOf_int_mk Try.underlying3 hx) unitElem_mk
  refine ⟨w', hrun, ⟨_, hown, ?_, fun y => ?_⟩, (Keeps.refl _ _).grown hg (fun k e _ => by simp only [Option.some.injEq] at e; exact e.symm)⟩
  · rw [size_put (h1.tidy K), h2, h3]
    by_cases hm : x ∈ l <;> simp [hm]
  · by_cases hy : y = x
    · subst hy
      rw [has_put_same (k := .int .i64 y) h1.isMap (by trivial)]
      by_cases hm : y ∈ l <;> simp [hm]
    · rw [has_put_other (fun e => hy (by simpa using e)), h3]
      by_cases hm : x ∈ l <;> simp [hm, hy]

def maj (n : Int) : Int := if n < 1 then 1 else n / 2 + 1
set_option maxRecDepth 100000 in
set_option maxHeartbeats 800000 in
theorem majority_any (n : Int) (w : World) (hn : -9223372036854775808 ≤ n ∧ n ≤ 9223372036854775807) : Calls Try.prog 9 #[.int .i64 n] w fun e w' => e = .returned (.int .i64 (maj n)) ∧ w' = w := by
  obtain ⟨r, hr⟩ : ∃ r, maj n = r := ⟨_, rfl⟩
  have HR := Lib.hid hr
  rw [hr]
  unfold maj at hr
  by_cases h1 : n < 1
  · rw [if_pos h1] at hr
    have HV := Lib.hid hr
    by_cases h2 : n < 0
    · have hm : max n 0 = 0 := by omega
      clear hr
      go_enter Try.func9, Try.ntmps9
      go_wp2
      go_ret
      exact ⟨by rw [← HV.out]; rfl, rfl⟩
    · obtain rfl : n = 0 := by omega
      clear hr
      go_enter Try.func9, Try.ntmps9
      go_wp2
      go_ret
      exact ⟨by rw [← HV.out]; rfl, rfl⟩
  · rw [if_neg h1] at hr
    have HV := Lib.hid hr
    have hm : max n 0 = n := by omega
    have hp : 0 ≤ n := by omega
    have hw : 0 ≤ n / 2 ∧ n / 2 ≤ 4611686018427387903 := by omega
    clear hr
    go_enter Try.func9, Try.ntmps9
    go_wp2
    go_ret
    exact ⟨by rw [← HV.out]; rfl, rfl⟩
set_option maxRecDepth 100000 in
set_option maxHeartbeats 800000 in
theorem refMajority_any (n : Int) (w : World) (hn : -9223372036854775808 ≤ n ∧ n ≤ 9223372036854775807) : Calls Try.prog 11 #[.int .i64 n] w fun e w' => e = .returned (.int .i64 (maj n)) ∧ w' = w := by
  obtain ⟨r, hr⟩ : ∃ r, maj n = r := ⟨_, rfl⟩
  have HR := Lib.hid hr
  rw [hr]
  unfold maj at hr
  by_cases h1 : n < 1
  · rw [if_pos h1] at hr
    have HV := Lib.hid hr
    clear hr
    go_enter Try.func11, Try.ntmps11
    go_wp2
    go_ret
    exact ⟨by rw [← HV.out]; rfl, rfl⟩
  · rw [if_neg h1] at hr
    have HV := Lib.hid hr
    have hp : 0 ≤ n := by omega
    have hw : 0 ≤ n / 2 ∧ n / 2 ≤ 4611686018427387903 := by omega
    clear hr
    go_enter Try.func11, Try.ntmps11
    go_wp2
    go_ret
    exact ⟨by rw [← HV.out]; rfl, rfl⟩
end Go.Proofs.Yteidjpnmfmcfkaa
