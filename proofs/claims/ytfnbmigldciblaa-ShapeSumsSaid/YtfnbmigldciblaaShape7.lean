/- shape.size, and where leaves end. -/
import Derived.Test.YtfnbmigldciblaaShape4
import Derived.Test.YtfnbmigldciblaaPairs
namespace Go.Proofs.Ytfnbmigldciblaa
open Go.RowKit
set_option linter.unusedVariables false

set_option maxRecDepth 100000 in
set_option maxHeartbeats 3200000 in
theorem size_any (ao : Option Addr) (n cap : Nat) (ps : List PairX) (w : World) (hr : Pairs w ao ps) (hn : ps.length = n) (hm : psum ps ≤ 1000000) :
    Calls Try.prog 21 #[.slice ao n cap] w fun e w' => e = .returned (.int .i64 (psum ps : Nat)) ∧ Same w w' := by
  have HR := Lib.hid hr
  have HN := Lib.hid hn
  have hnl : n ≤ 1000000 := by have := psum_len ps; omega
  clear hr hn
  go_enter Try.func21, Try.ntmps21
  go_wp2
  go_loopw [3, 5, 8] (fun s _ i wr => ∃ j : Nat, j ≤ n ∧ i = .int .i64 j ∧ (∃ z : Nat, z = psum (ps.take j) ∧ s = .int .i64 z) ∧ Same w wr) (fun _ _ i _ => n - (intOf i).toNat)
  case atStart => exact ⟨0, by omega, rfl, ⟨0, by simp [psum], rfl⟩, Keeps.refl _ _⟩
  case round =>
    obtain ⟨j, hj, rfl, ⟨z, hz, rfl⟩, hs⟩ := hrel
    have HZ := Lib.hid hz
    have HS := Lib.hid hs
    have hzl : z ≤ 1000000 := by have := psum_take_le ps j; omega
    clear hz
    by_cases hlt : j < n
    · have hjl : j < ps.length := by have := HN.out; omega
      obtain ⟨g, off, ko, kc, vo, vc, rfl, _, _, c0, c1, _, _⟩ := (HR.out.same hs).at hjl
      have hsn := psum_snoc ps j hjl
      have hsm : psum (ps.take (j + 1)) ≤ 1000000 := by have := psum_take_le ps (j + 1); omega
      have hps : psize ps[j] = 4 + ps[j].ks.length + ps[j].vs.length := rfl
      generalize ps[j] = p at *
      have hg : g < wr.heap.size := World.block_lt_of_cell? wr _ c0
      obtain ⟨kl, hkl⟩ : ∃ kl, p.ks.length = kl := ⟨_, rfl⟩
      obtain ⟨vl, hvl⟩ : ∃ vl, p.vs.length = vl := ⟨_, rfl⟩
      have HSN : Hid (psum (ps.take (j + 1)) = z + (4 + kl + vl)) := Lib.hid (by rw [hsn, HZ.out, hps, hkl, hvl])
      have hb : z + (4 + kl + vl) ≤ 1000000 := by have := HSN.out; omega
      rw [hkl] at c0
      rw [hvl] at c1
      clear hs hsn hsm hps hkl hvl
      go_wp2
      go_roundw
      case rel => exact ⟨j + 1, by omega, by go_num, ⟨z + (4 + kl + vl), HSN.out.symm, by go_num⟩, HS.out.alloc _⟩
      case measure => simp [intOf]; omega
    · have hjn : j = n := by omega
      have hz2 : z = psum ps := by rw [HZ.out, List.take_of_length_le (by have := HN.out; omega)]
      subst hz2
      go_wp2
      go_ret
      exact ⟨rfl, HS.out⟩

/-- Where leaves end. -/
def LeafEnds (ps : List PairX) (f t : Nat) : Prop := (∃ p, ps[t - 1]? = some p ∧ MarkOf p.ks 0) ∨ 200 < psum ((ps.drop f).take (t + 1 - f))
open Classical in
noncomputable instance (ps : List PairX) : ∀ f t, Decidable (LeafEnds ps f t) := fun f t => propDecidable _

set_option maxRecDepth 100000 in
set_option maxHeartbeats 3200000 in
theorem leafEnds_ok (B f t cap : Nat) (ao : Option Addr) (ps : List PairX) (w : World) (h1 : w.heap[B]? = some (.cells #[.slice ao ps.length cap] 25 (0, 0)))
    (hr : Pairs w ao ps) (hcap : ps.length ≤ cap) (hft : f < t) (ht : t < ps.length) (hm : psum ps ≤ 1000000) :
    Calls Try.prog 20 #[.int .i64 f, .int .i64 t, .pointer (some ⟨B, 0, none⟩)] w fun e w' => ∃ b, e = .returned (.bool b) ∧ Same w w' ∧ (b = true ↔ LeafEnds ps f t) := by
  have c1 := cell_of_one h1
  have HR := Lib.hid hr
  have hlen := psum_len ps
  have s1 : IntKind.i64.wrap ((t : Int) - 1) = (t : Int) - 1 := IntWalk.i64_in _ (by omega)
  have s2 : (0 : Int) ≤ (t : Int) - 1 := by omega
  have s3 : (t : Int) - 1 < (ps.length : Int) := by omega
  have s4 : ((t : Int) - 1).toNat = t - 1 := by omega
  have hj : t - 1 < ps.length := by omega
  obtain ⟨g, off, ko, kc, vo, vc, rfl, _, _, k0, k1, bk, _⟩ := hr.at hj
  have hkl : ps[t - 1].ks.length ≤ 1000000 := by
    have h1 := psum_snoc ps (t - 1) hj
    have h2 := psum_take_le ps (t - 1 + 1)
    have h3 : psize ps[t - 1] = 4 + ps[t - 1].ks.length + ps[t - 1].vs.length := rfl
    omega
  have HE : Hid ((∃ p, ps[t - 1]? = some p ∧ MarkOf p.ks 0) ↔ markB ps[t - 1].ks 0 = true) := Lib.hid (by
    rw [markB_iff, List.getElem?_eq_getElem hj]
    exact ⟨fun ⟨p, h1, h2⟩ => by rw [Option.some.inj h1]; exact h2, fun h => ⟨_, rfl, h⟩⟩)
  have BK := Lib.hid bk
  generalize ps[t - 1] = p at *
  have HPC := Lib.hid (hr.part f (t + 1 - f) (by omega))
  have hpl : ((ps.drop f).take (t + 1 - f)).length = t + 1 - f := by simp; omega
  have hpm : psum ((ps.drop f).take (t + 1 - f)) ≤ 1000000 := by
    have h1 := psum_take_le (ps.drop f) (t + 1 - f)
    have h2 := psum_drop_le ps f
    omega
  have HPL := Lib.hid hpl
  have HPM := Lib.hid hpm
  clear hr h1 bk k1 hpl hpm
  go_enter Try.func20, Try.ntmps20
  go_wp2_with fail
  ((with_reducible refine (mark_b ko p.ks.length kc 0 p.ks _ BK.out rfl (by omega)).mono ?_); rintro e w4 ⟨rfl, hw⟩; replace hw := hw.symm; subst hw)
  generalize markB p.ks 0 = b at *
  cases b with
  | true =>
    go_wp2
    go_ret
    exact ⟨true, rfl, Keeps.refl _ _, ⟨fun _ => .inl (HE.out.2 (by simp)), fun _ => rfl⟩⟩
  | false =>
    have q1 : (t : Int) < (ps.length : Int) := by omega
    have u1 : IntKind.i64.wrap ((t : Int) + 1) = (t : Int) + 1 := IntWalk.i64_in _ (by omega)
    have u2 : (0 : Int) ≤ (f : Int) := by omega
    have u3 : (f : Int) ≤ (t : Int) + 1 := by omega
    have u4 : (t : Int) + 1 ≤ (cap : Int) := by omega
    have u5 : ((t : Int) + 1).toNat = t + 1 := by omega
    go_wp2_with fail
    ((with_reducible refine (size_any _ (t + 1 - f) (cap - f) ((ps.drop f).take (t + 1 - f)) _ HPC.out HPL.out HPM.out).mono ?_); rintro e w5 ⟨rfl, hk⟩)
    have HK := Lib.hid hk
    clear hk
    go_wp2
    go_ret
    refine ⟨_, rfl, HK.out, ?_⟩
    show decide ((200 : Int) < (psum ((ps.drop f).take (t + 1 - f)) : Nat)) = true ↔ _
    rw [decide_eq_true_iff]
    constructor
    · intro h; exact .inr (by omega)
    · rintro (h | h)
      · have := HE.out.1 h; simp at this
      · omega

/-- A row of one number that was just made. -/
theorem own_lit {w : World} {base B : Nat} {e : TypeId} {z : Int} (hb : base ≤ B) (h : w.heap[B]? = some (.cells #[.int .i64 z] e (0, 0))) : w.ownsRow base e 1 (.slice (some ⟨B, 0, none⟩) 1 1) 1 (i64s [z]) :=
  ⟨rfl, .inr ⟨B, 1, #[.int .i64 z], rfl, hb, h, Nat.le_refl _, by unfold maxLen; omega, rfl, rfl⟩⟩

/-- The groups of pairs. -/
noncomputable def leavesOf (ps : List PairX) : List Int := if ps.length = 0 then [0] else (groupsTo (LeafEnds ps) ps.length ps.length).1

set_option maxRecDepth 100000 in
set_option maxHeartbeats 3200000 in
theorem leaves_any (ao : Option Addr) (cap : Nat) (ps : List PairX) (w : World) (hr : Pairs w ao ps) (hcap : ps.length ≤ cap) (hm : psum ps ≤ 1000000) :
    Calls Try.prog 14 #[.slice ao ps.length cap] w fun e w' => ∃ v, e = .returned v ∧ w'.ownsRow w.heap.size 3 1 v (leavesOf ps).length (i64s (leavesOf ps)) ∧ Same w w' := by
  have hlen := psum_len ps
  by_cases h0 : ps.length = 0
  · have hl : leavesOf ps = [0] := if_pos h0
    rw [hl, h0]
    have ho : ((w.alloc (.cells #[.slice ao 0 cap] 25)).alloc (.cells #[.int .i64 0] 3)).ownsRow w.heap.size 3 1 (.slice (some ⟨w.heap.size + 1, 0, none⟩) 1 1) 1 (i64s [0]) := by
      exact own_lit (by simp) (by have := heap_alloc_new (w.alloc (.cells #[.slice ao 0 cap] 25)) (.cells #[.int .i64 0] 3); simpa using this)
    have HO := Lib.hid ho
    clear ho hr hm hcap
    go_enter Try.func14, Try.ntmps14
    go_wp2
    go_ret
    exact ⟨_, rfl, HO.out, ((Keeps.refl _ _).alloc _).alloc _⟩
  · have hl : leavesOf ps = (groupsTo (LeafEnds ps) ps.length ps.length).1 := if_neg h0
    have hb0 : ((ps.length : Int) == 0) = false := beq_false_of_ne (by omega)
    have h1 : (w.alloc (.cells #[.slice ao ps.length cap] 25)).heap[w.heap.size]? = some (.cells #[.slice ao ps.length cap] 25 (0, 0)) := heap_alloc_new w _
    have hk : Same w (w.alloc (.cells #[.slice ao ps.length cap] 25)) := (Keeps.refl _ _).alloc _
    have HF : Hid (∀ (f t : Nat) (w' : World), Same (w.alloc (.cells #[.slice ao ps.length cap] 25)) w' → f < t → t < ps.length → Calls Try.prog 20 (#[.int .i64 f, .int .i64 t] ++ #[.pointer (some ⟨w.heap.size, 0, none⟩)]) w' fun e w'' => ∃ b, e = .returned (.bool b) ∧ Same w' w'' ∧ (b = true ↔ LeafEnds ps f t)) := Lib.hid fun f t w' hs' hft ht =>
      leafEnds_ok w.heap.size f t cap ao ps w' (hs'.obj h1 (fun e => e)) (hr.same (hk.trans hs' (fun _ _ e => e))) hcap hft ht hm
    have HK := Lib.hid hk
    have hm2 : ps.length ≤ 1000000 := by omega
    have HL := Lib.hid hl
    clear h1 hk hr hm hl
    go_enter Try.func14, Try.ntmps14
    go_wp2_with fail
    ((with_reducible refine (part_leaves _ (LeafEnds ps) ps.length _ hm2 HF.out).mono ?_); rintro e w1 ⟨v, rfl, ho, hk1⟩)
    have HO := Lib.hid ho
    have HK1 := Lib.hid hk1
    clear ho hk1
    go_wp2
    go_ret
    rw [HL.out]
    exact ⟨v, rfl, own_base HO.out HK.out.size, HK.out.trans HK1.out (fun _ _ e => e)⟩

end Go.Proofs.Ytfnbmigldciblaa
