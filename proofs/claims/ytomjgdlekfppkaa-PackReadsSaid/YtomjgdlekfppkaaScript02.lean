/- Scripts of layer 2's laws: a slice of calls, as it is read. -/
import Derived.Test.YtomjgdlekfppkaaPack2
import Derived.Test.YtomjgdlekfppkaaFrame
import Derived.Deep.Slices
namespace Go.Proofs.Ytomjgdlekfppkaa
open Go.RowKit
set_option linter.unusedVariables false

/-- One call of a script. -/
structure Opx where
  kind : Int
  size : Int
  num : Nat
  val : Value
  bs : List UInt8

/-- It lies in four cells. -/
structure OpAt (w : World) (g off : Nat) (o : Opx) : Prop where
  c0 : w.cell? ⟨g, off, none⟩ = some (.int .i64 o.kind)
  c1 : w.cell? ⟨g, off + 1, none⟩ = some (.int .i64 o.size)
  c2 : w.cell? ⟨g, off + 1 + 1, none⟩ = some (.int .u64 o.num)
  c3 : w.cell? ⟨g, off + 1 + 1 + 1, none⟩ = some o.val
  bytes : Bytes w o.val o.bs
  spot : ∀ a n c, o.val = .slice (some a) n c → o.bs ≠ [] → a.spot = none
  small : o.num < 18446744073709551616

/-- A slice of calls. -/
def Script (w : World) (ao : Option Addr) (ops : List Opx) : Prop := ops = [] ∨ ∃ g off, ao = some ⟨g, off, none⟩ ∧ ∀ j (h : j < ops.length), OpAt w g (off + j * 4) ops[j]
theorem OpAt.below {w w' : World} {g off : Nat} {o : Opx} (h : OpAt w g off o) (k : Below w.heap.size w w') : OpAt w' g off o := by
  have hb := World.block_lt_of_cell? w _ h.c0
  have hk : Same w w' := ⟨k.os, k.tape, k.output, k.size, fun j hj _ => k.block j hj⟩
  have hc : ∀ i v, w.cell? ⟨g, i, none⟩ = some v → w'.cell? ⟨g, i, none⟩ = some v := fun i v e => (k.cell (p := ⟨g, i, none⟩) hb).trans e
  exact ⟨hc _ _ h.c0, hc _ _ h.c1, hc _ _ h.c2, hc _ _ h.c3, h.bytes.same hk, h.spot, h.small⟩
theorem Script.same {w w' : World} {ao : Option Addr} {ops : List Opx} (h : Script w ao ops) (k : Same w w') : Script w' ao ops := by
  rcases h with h | ⟨g, off, h1, h2⟩
  · exact .inl h
  · exact .inr ⟨g, off, h1, fun j hj => (h2 j hj).below k.below⟩
theorem Script.at {w : World} {g off : Nat} {ops : List Opx} (h : Script w (some ⟨g, off, none⟩) ops) {j : Nat} (hj : j < ops.length) : OpAt w g (off + j * 4) ops[j] := by
  rcases h with h | ⟨g', off', h1, h2⟩
  · subst h; simp at hj
  · simp only [Option.some.injEq, Addr.mk.injEq] at h1
    obtain ⟨rfl, rfl, _⟩ := h1
    exact h2 j hj

theorem add_at2 (g off i j : Nat) : ((⟨g, off, none⟩ : Addr).add (i * 4)).add j = ⟨g, off + i * 4 + j, none⟩ := by
  unfold Addr.add; split <;> split <;> simp_all
theorem choose_ops {n : Nat} {p : Nat → Opx → Prop} (h : ∀ i, i < n → ∃ x, p i x) : ∃ f : Nat → Opx, ∀ i, i < n → p i (f i) := by
  classical
  refine ⟨fun i => if hi : i < n then Classical.choose (h i hi) else ⟨0, 0, 0, .slice none 0 0, []⟩, fun i hi => ?_⟩
  simp only [dif_pos hi]
  exact Classical.choose_spec (h i hi)

/-- How much a script's calls hand in. -/
def weight (ops : List Opx) : Nat := (ops.map fun o => o.bs.length + 10).sum
theorem weight_snoc (ops : List Opx) (j : Nat) (h : j < ops.length) : weight (ops.take (j + 1)) = weight (ops.take j) + (ops[j].bs.length + 10) := by
  unfold weight
  rw [List.take_succ_eq_append_getElem h, List.map_append, List.sum_append]
  rfl

/-- What 'great' answers: false only of a script that isn't. -/
def GreatPost (w : World) (ops : List Opx) (e : Ending) (w' : World) : Prop := ∃ b, e = .returned (.bool b) ∧ w = w' ∧ (b = false → weight ops ≤ 1000000)
theorem GreatPost.yes (w : World) (ops : List Opx) : GreatPost w ops (.returned (.bool true)) w := ⟨true, rfl, rfl, fun e => by cases e⟩
theorem GreatPost.last (w : World) (ops : List Opx) : GreatPost w ops (.returned (.bool (decide ((1000000 : Int) < (weight ops : Nat))))) w := ⟨_, rfl, rfl, fun e => by simp at e; omega⟩

set_option maxRecDepth 100000 in
set_option maxHeartbeats 1600000 in
theorem great_any (ao : Option Addr) (cap : Nat) (ops : List Opx) (w : World) (h : Script w ao ops) (hl : ops.length ≤ maxLen) :
    Calls Try.prog 9 #[.slice ao ops.length cap] w (GreatPost w ops) := by
  unfold maxLen at hl
  have HS := Lib.hid h
  clear h
  go_enter Try.func9, Try.ntmps9
  go_wp2
  go_loop [3, 4] (fun n i => ∃ j : Nat, j ≤ ops.length ∧ i = .int .i64 j ∧ n = .int .i64 (weight (ops.take j) : Nat) ∧ weight (ops.take j) ≤ 2000010) (fun _ i => ops.length - (intOf i).toNat)
  case atStart => exact ⟨0, by omega, rfl, by simp [weight], by simp [weight]⟩
  case round =>
    obtain ⟨j, hj, rfl, rfl, hw⟩ := hrel
    by_cases hlt : j < ops.length
    · rcases HS.out with h0 | ⟨g, off, rfl, hall⟩
      · subst h0; simp at hlt
      have ho := hall j hlt
      have hc3 := ho.c3
      obtain ⟨bo, bc, hform⟩ := ho.bytes.form
      have hsn := weight_snoc ops j hlt
      generalize ops[j] = o at *
      rw [hform] at hc3
      have HN := Lib.hid hsn
      clear hsn ho hall
      by_cases hb : (1000000 : Int) < (o.bs.length : Int)
      · go_wp2
        go_ret
        exact GreatPost.yes _ _
      by_cases hn : (1000000 : Int) < (weight (ops.take j) : Nat)
      · go_wp2
        go_ret
        exact GreatPost.yes _ _
      · go_wp2
        go_round
        case rel => exact ⟨j + 1, by omega, by go_num, by rw [HN.out]; go_num, by rw [HN.out]; omega⟩
        case measure => simp [intOf]; omega
    · have hjn : ops.take j = ops := List.take_of_length_le (by omega)
      rw [hjn] at hw ⊢
      clear hjn
      go_wp2
      go_ret
      exact GreatPost.last _ _

open Go.ChangeShapes Go.WideShapes Go.Deep in
/-- A script out of an argument. -/
theorem open_script {H : Type} {enc : TypeId × Value → H} {W : World} {base : Nat} {v : Value} {d : DataW H} {ps : List MemPlace}
    (hok : Value.okWide Try.prog W .any base 22 v) (h : DataW.Trod enc Try.prog W 0 (fun _ => true) true 22 v d ps) :
    ∃ ao cap ops, v = .slice ao ops.length cap ∧ Script W ao ops ∧ ops.length ≤ maxLen := by
  obtain ⟨a0, len0, cap0, rfl⟩ := okWide_slice Try.underlying22 hok
  obtain ⟨fuel, hf⟩ := h
  have hc4 : Try.prog.cellsOf 31 = 4 := by kernel_rfl
  have hc1 : Try.prog.cellsOf 5 = 1 := by kernel_rfl
  have hci : Try.prog.cellsOf 3 = 1 := by kernel_rfl
  have hcu : Try.prog.cellsOf 29 = 1 := by kernel_rfl
  have hcs1 : Try.prog.cellsOf 26 = 1 := by kernel_rfl
  rcases open_slice Try.underlying22 hf with ⟨hcs, _⟩ | ⟨a, len, cap, m, n, D, Pl, hcs, _, hl, hm, hmm, _, hx⟩
  · simp [Value.cells] at hcs
    obtain ⟨rfl, rfl, rfl⟩ := hcs
    exact ⟨none, 0, [], rfl, .inl rfl, Nat.zero_le _⟩
  · simp [Value.cells] at hcs
    obtain ⟨rfl, rfl, rfl⟩ := hcs
    simp only [if_true] at hmm
    subst hmm
    rw [hc4] at hx
    have each : ∀ i, i < len0 → ∃ o : Opx, ∀ g off, a = ⟨g, off, none⟩ → OpAt W g (off + i * 4) o := by
      intro i hi
      obtain ⟨cs, h1, h2⟩ := hx i (by omega)
      obtain ⟨_, hlen, hcell⟩ := World.cells?_some h1
      obtain ⟨c0, c1, c2, c3, rfl⟩ := four_of cs hlen
      obtain ⟨xs, k, _, _, _, hxs, hfd⟩ := DataW.trod_struct Try.underlying31 h2
      obtain ⟨x0, x1, x2, x3, rfl⟩ := four_of xs hxs
      have f0 : DataW.trod enc Try.prog W 0 (fun _ => true) true k 3 [c0] = some x0 := by simpa [hci] using hfd 0 _ rfl
      have f1 : DataW.trod enc Try.prog W 0 (fun _ => true) true k 3 [c1] = some x1 := by simpa [hci] using hfd 1 _ rfl
      have f2 : DataW.trod enc Try.prog W 0 (fun _ => true) true k 29 [c2] = some x2 := by simpa [hcu] using hfd 2 _ rfl
      have f3 : DataW.trod enc Try.prog W 0 (fun _ => true) true k 26 [c3] = some x3 := by simpa [hcs1] using hfd 3 _ rfl
      obtain ⟨z0, e0, _, _⟩ := DataW.trod_int Try.underlying3 f0
      obtain ⟨z1, e1, _, _⟩ := DataW.trod_int Try.underlying3 f1
      obtain ⟨z2, e2, _, w2⟩ := DataW.trod_int Try.underlying29 f2
      obtain ⟨bs, ao, cb, hv, hb, _, _, hsp⟩ := open_bytes_trod Try.underlying26 Try.underlying5 hc1 f3
      simp only [List.cons.injEq, and_true] at e0 e1 e2
      subst e0; subst e1; subst e2
      have hb2 := bounds_u64 w2
      refine ⟨⟨z0, z1, z2.toNat, c3, bs⟩, fun g off ha => ?_⟩
      subst ha
      have hc := fun j hj => hcell j hj
      simp only [add_at2] at hc
      have g0 := hc 0 (by omega)
      have g1 := hc 1 (by omega)
      have g2 := hc 2 (by omega)
      have g3 := hc 3 (by omega)
      simp only [List.getElem?_cons_zero, List.getElem?_cons_succ] at g0 g1 g2 g3
      refine ⟨by simpa using g0, g1, ?_, by simpa using g3, hb, fun a' n' c' e hne => ?_, ?_⟩
      · rw [show off + i * 4 + 1 + 1 = off + i * 4 + 2 from rfl, g2]
        simp only [Option.some.injEq, Value.int.injEq, true_and]
        omega
      · simp only at e
        rw [hv] at e
        simp only [Value.slice.injEq] at e
        exact hsp a' e.1 hne
      · simp only; omega
    obtain ⟨f, hfn⟩ := choose_ops each
    refine ⟨some a, _, (List.range len0).map f, by rw [List.length_map, List.length_range], ?_, by simp; omega⟩
    rcases Nat.eq_zero_or_pos len0 with h0 | h0
    · exact .inl (by simp [h0])
    · refine .inr ⟨a.block, a.off, ?_, fun j hj => ?_⟩
      · have hsp : a.spot = none := by
          obtain ⟨cs, h1, h2⟩ := hx 0 (by omega)
          obtain ⟨_, hlen, hcell⟩ := World.cells?_some h1
          have h3 := hcell 0 (by omega)
          rw [List.getElem?_eq_getElem (by omega), Nat.zero_mul] at h3
          cases hs : a.spot with
          | none => rfl
          | some _ =>
            have ha : (a.add 0).add 0 = a := rfl
            rw [ha] at h3
            simp only [World.cell?, hs] at h3
            split at h3 <;> simp at h3
        cases a; simp only at hsp ⊢; rw [hsp]
      · simp only [List.length_map, List.length_range] at hj
        have hsp : a = ⟨a.block, a.off, none⟩ := by
          obtain ⟨cs, h1, h2⟩ := hx 0 (by omega)
          obtain ⟨_, hlen, hcell⟩ := World.cells?_some h1
          have h3 := hcell 0 (by omega)
          rw [List.getElem?_eq_getElem (by omega), Nat.zero_mul] at h3
          cases hs : a.spot with
          | none => cases a; simp only at hs ⊢; rw [hs]
          | some _ =>
            have ha : (a.add 0).add 0 = a := rfl
            rw [ha] at h3
            simp only [World.cell?, hs] at h3
            split at h3 <;> simp at h3
        simpa using hfn j hj a.block a.off hsp

end Go.Proofs.Ytomjgdlekfppkaa
