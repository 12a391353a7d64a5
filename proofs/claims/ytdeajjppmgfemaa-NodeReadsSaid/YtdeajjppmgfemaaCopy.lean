/- Copies of pairs. -/
import Derived.Test.YtdeajjppmgfemaaShape8
import Derived.Test.YtdeajjppmgfemaaFresh
namespace Go.Proofs.Ytdeajjppmgfemaa
open Go.RowKit
set_option linter.unusedVariables false

/-- What pairs read as. -/
def kvs (ps : List PairX) : List (List UInt8 × List UInt8) := ps.map fun p => (p.ks, p.vs)
theorem kvs_length (ps : List PairX) : (kvs ps).length = ps.length := by simp [kvs]
/-- The cells of pairs. -/
def flat (qs : List PairX) : List Value := qs.flatMap fun q => [q.kv, q.vv]
theorem flat_length (qs : List PairX) : (flat qs).length = qs.length * 2 := by
  unfold flat
  induction qs with
  | nil => rfl
  | cons q r ih => simp only [List.flatMap_cons, List.length_append, ih, List.length_cons, List.length_nil]; omega
theorem flat_get (qs : List PairX) : ∀ (j : Nat) (h : j < qs.length), (flat qs)[j * 2]? = some qs[j].kv ∧ (flat qs)[j * 2 + 1]? = some qs[j].vv := by
  unfold flat
  induction qs with
  | nil => intro j h; simp at h
  | cons q r ih =>
    intro j h
    rcases j with _ | j
    · exact ⟨rfl, rfl⟩
    · have hj : j < r.length := by simpa using h
      obtain ⟨h1, h2⟩ := ih j hj
      rw [show (j + 1) * 2 = j * 2 + 1 + 1 from by omega]
      exact ⟨by simpa using h1, by simpa using h2⟩
/-- A pair's texts lie elsewhere than in block row. -/
structure FarRow (row : Option Nat) (q : PairX) : Prop where
  fk : ∀ a n c, q.kv = .slice (some a) n c → q.ks ≠ [] → a.spot = none ∧ row ≠ some a.block
  fv : ∀ a n c, q.vv = .slice (some a) n c → q.vs ≠ [] → a.spot = none ∧ row ≠ some a.block
structure CopyAt (w : World) (row : Option Nat) (q : PairX) : Prop where
  bk : Bytes w q.kv q.ks
  bv : Bytes w q.vv q.vs
  far : FarRow row q
theorem bytes_grown {w w' : World} {row : Option Nat} {x : Value} {bs : List UInt8} (h : Bytes w x bs) (hg : w.grownBy w' row) (hf : ∀ a n c, x = .slice (some a) n c → bs ≠ [] → row ≠ some a.block) : Bytes w' x bs := by
  by_cases h0 : bs = []
  · subst h0
    rcases h with ⟨a, c, rfl, _⟩ | ⟨c, rfl, _⟩
    · exact .inl ⟨a, c, rfl, by simp [u8s]⟩
    · exact .inr ⟨c, rfl, rfl⟩
  · exact h.keeps (S := fun k => row = some k) ((Keeps.refl (fun k => row = some k) w).grown hg (fun k e _ => e)) fun a n c e => hf a n c e h0
/-- The copies up to here. -/
structure Copies (base : Nat) (w : World) (ps : List PairX) (j : Nat) (out : Value) (qs : List PairX) : Prop where
  len : qs.length = j
  kv : kvs qs = kvs (ps.take j)
  own : w.ownsRow base 54 2 out j (flat qs)
  each : ∀ q ∈ qs, CopyAt w out.ownBlock q

theorem Try.infoPair : (Try.prog.info? 54).map (fun i => (i.zero, i.size, i.bytes)) = some (some (.agg #[.slice none 0 0, .slice none 0 0]), 2, 48) := by kernel_rfl

theorem Copies.step {base : Nat} {wr wb w9 : World} {ps : List PairX} {j : Nat} {out : Value} {qs : List PairX} (h : Copies base wr ps j out qs) (hj : j < ps.length) (hs : Same wr wb)
    {ka va : Addr} {kc vc g cap : Nat} (hbk : Bytes wb (.slice (some ka) ps[j].ks.length kc) ps[j].ks) (hbv : Bytes wb (.slice (some va) ps[j].vs.length vc) ps[j].vs)
    (hk : ps[j].ks ≠ [] → ka.spot = none ∧ wr.heap.size ≤ ka.block) (hv : ps[j].vs ≠ [] → va.spot = none ∧ wr.heap.size ≤ va.block)
    (hown : w9.ownsRow base 54 2 (.slice (some ⟨g, 0, none⟩) (j + 1) cap) (j + 1) (flat qs ++ [.slice (some ka) ps[j].ks.length kc, .slice (some va) ps[j].vs.length vc])) (hg : wb.grownBy w9 out.ownBlock) (hat : out.ownBlock = some g ∨ g = wb.heap.size) :
    ∃ qs', Copies base w9 ps (j + 1) (.slice (some ⟨g, 0, none⟩) (j + 1) cap) qs' := by
  have hlt : ∀ k, out.ownBlock = some k → k < wr.heap.size := fun k e => (h.own.lt k e).2
  have hkl : ∀ {x : Addr} {n c : Nat} {bs : List UInt8}, Bytes wb (.slice (some x) n c) bs → bs ≠ [] → x.block < wb.heap.size := by
    intro x n c bs hb h0
    rcases hb with ⟨a', c', h1, hc⟩ | ⟨c, h, _⟩
    · simp only [Value.slice.injEq, Option.some.injEq] at h1
      obtain ⟨rfl, _, _⟩ := h1
      cases bs with
      | nil => exact absurd rfl h0
      | cons b r =>
        have := World.block_lt_of_cell? wb _ (hc 0 _ rfl)
        simpa [Addr.add] using this
    · simp at h
  have hfar : ∀ x : Addr, x.block < wb.heap.size → out.ownBlock ≠ some x.block → (Value.slice (some ⟨g, 0, none⟩) (j + 1) cap).ownBlock ≠ some x.block := by
    intro x hx hne e
    simp only [Value.ownBlock, Option.some.injEq] at e
    rcases hat with h1 | h1
    · exact hne (by rw [h1, e])
    · omega
  refine ⟨qs ++ [⟨.slice (some ka) ps[j].ks.length kc, ps[j].ks, .slice (some va) ps[j].vs.length vc, ps[j].vs⟩], by rw [List.length_append, h.len]; rfl, ?_, ?_, ?_⟩
  · rw [List.take_succ_eq_append_getElem hj]
    have := h.kv
    simp only [kvs, List.map_append, List.map_cons, List.map_nil] at this ⊢
    rw [this]
  · have : flat (qs ++ [⟨.slice (some ka) ps[j].ks.length kc, ps[j].ks, .slice (some va) ps[j].vs.length vc, ps[j].vs⟩]) = flat qs ++ [.slice (some ka) ps[j].ks.length kc, .slice (some va) ps[j].vs.length vc] := by simp [flat]
    rw [this]; exact hown
  · intro q hq
    rcases List.mem_append.1 hq with hq | hq
    · obtain ⟨b1, b2, f⟩ := h.each q hq
      have b1' := b1.same hs
      have b2' := b2.same hs
      refine ⟨bytes_grown b1' hg fun a n c e h0 => (f.fk a n c e h0).2, bytes_grown b2' hg fun a n c e h0 => (f.fv a n c e h0).2, ⟨fun a n c e h0 => ⟨(f.fk a n c e h0).1, ?_⟩, fun a n c e h0 => ⟨(f.fv a n c e h0).1, ?_⟩⟩⟩
      · exact hfar a (hkl (by rw [← e]; exact b1') h0) (f.fk a n c e h0).2
      · exact hfar a (hkl (by rw [← e]; exact b2') h0) (f.fv a n c e h0).2
    · simp only [List.mem_singleton] at hq
      subst hq
      have n1 : ∀ x : Addr, wr.heap.size ≤ x.block → out.ownBlock ≠ some x.block := fun x hx e => by have := hlt _ e; omega
      refine ⟨bytes_grown hbk hg fun a n c e h0 => ?_, bytes_grown hbv hg fun a n c e h0 => ?_, ⟨fun a n c e h0 => ?_, fun a n c e h0 => ?_⟩⟩
      · simp only [Value.slice.injEq, Option.some.injEq] at e; rw [← e.1]; exact n1 ka (hk h0).2
      · simp only [Value.slice.injEq, Option.some.injEq] at e; rw [← e.1]; exact n1 va (hv h0).2
      · simp only [Value.slice.injEq, Option.some.injEq] at e; rw [← e.1]; exact ⟨(hk h0).1, hfar ka (hkl hbk h0) (n1 ka (hk h0).2)⟩
      · simp only [Value.slice.injEq, Option.some.injEq] at e; rw [← e.1]; exact ⟨(hv h0).1, hfar va (hkl hbv h0) (n1 va (hv h0).2)⟩

theorem Copies.pairs {base : Nat} {w : World} {ps : List PairX} {out : Value} {qs : List PairX} (h : Copies base w ps ps.length out qs) : ∃ ao cap, out = .slice ao qs.length cap ∧ Pairs w ao qs ∧ qs.length ≤ cap ∧ kvs qs = kvs ps := by
  have hkv := h.kv
  rw [List.take_length] at hkv
  rw [h.len]
  have hone : ∀ q ∈ qs, q.kv.oneCell' = true ∧ q.vv.oneCell' = true := fun q hq => by
    obtain ⟨a, c, e⟩ := (h.each q hq).bk.form
    obtain ⟨a', c', e'⟩ := (h.each q hq).bv.form
    rw [e, e']; exact ⟨rfl, rfl⟩
  rcases h.own.2 with ⟨rfl, h0⟩ | ⟨g, cap, cur, rfl, hb, hg, hn, _⟩
  · have : qs = [] := List.length_eq_zero_iff.1 (by rw [h.len]; exact h0)
    exact ⟨none, 0, by rw [h0], .inl this, by omega, hkv⟩
  · refine ⟨_, cap, rfl, .inr ⟨g, 0, rfl, fun j hj => ?_⟩, hn, hkv⟩
    obtain ⟨f1, f2⟩ := flat_get qs j hj
    have c1 := h.own.cells rfl _ _ f1
    have c2 := h.own.cells rfl _ _ f2
    have a1 : (⟨g, 0, none⟩ : Addr).add (j * 2) = ⟨g, 0 + j * 2, none⟩ := by unfold Addr.add; split <;> simp_all
    have a2 : (⟨g, 0, none⟩ : Addr).add (j * 2 + 1) = ⟨g, 0 + j * 2 + 1, none⟩ := by unfold Addr.add; split <;> simp_all <;> omega
    rw [a1] at c1
    rw [a2] at c2
    have he := h.each qs[j] (List.getElem_mem hj)
    exact ⟨c1, c2, he.bk, he.bv, fun a n c e h0 => (he.far.fk a n c e h0).1, fun a n c e h0 => (he.far.fv a n c e h0).1⟩

theorem pairS {wr w' : World} {g i : Nat} {x y : Value} (c0 : wr.cell? ⟨g, i, none⟩ = some x) (c1 : wr.cell? ⟨g, i + 1, none⟩ = some y) (k : Same wr w') :
    w'.cell? ⟨g, i, none⟩ = some x ∧ w'.cell? ⟨g, i + 1, none⟩ = some y ∧ Same wr w' := by
  have hb := World.block_lt_of_cell? wr _ c0
  exact ⟨(World.cell?_of_block (w := wr) (a := ⟨g, i, none⟩) (k.block g hb (fun e => e))).trans c0, (World.cell?_of_block (w := wr) (a := ⟨g, i + 1, none⟩) (k.block g hb (fun e => e))).trans c1, k⟩

theorem two_cells (a d : Option Addr) (b c e f : Nat) : ∀ u ∈ [Value.slice a b c, .slice d e f], u.oneCell' = true := by
  intro u hu
  simp only [List.mem_cons, List.not_mem_nil, or_false] at hu
  rcases hu with rfl | rfl <;> rfl
theorem fresh_pack {wr cur wk : World} {ks : List UInt8} {ka : Addr} (h : Same wr cur) (k : Same cur wk) (f : ks ≠ [] → ka.spot = none ∧ cur.heap.size ≤ ka.block) : Same wr wk ∧ (ks ≠ [] → ka.spot = none ∧ wr.heap.size ≤ ka.block) :=
  ⟨h.trans k (fun _ _ e => e), fun h0 => ⟨(f h0).1, Nat.le_trans h.size (f h0).2⟩⟩

set_option maxRecDepth 100000 in
set_option maxHeartbeats 12800000 in
theorem copyPairs_any (ao : Option Addr) (cap N : Nat) (ps : List PairX) (w : World) (hr : Pairs w ao ps) (hN : ps.length = N) (hm : psum ps ≤ 1000000) :
    Calls Try.prog 16 #[.slice ao N cap] w fun e w' => ∃ ao' cap' qs, e = .returned (.slice ao' N cap') ∧ qs.length = N ∧ N ≤ cap' ∧ Pairs w' ao' qs ∧ kvs qs = kvs ps ∧ Same w w' := by
  have HR := Lib.hid hr
  have HN := Lib.hid hN
  have hlen : N ≤ 1000000 := by have := psum_len ps; omega
  have HM := Lib.hid hm
  clear hr hN hm
  obtain ⟨i0, hi0, hz0, hz1, hz2⟩ := info_parts8 Try.infoU8
  obtain ⟨j0, hj0, hy0, hy1, hy2⟩ := info_parts8 Try.infoPair
  have hst : (w.alloc (.cells #[] 54)).ownsRow w.heap.size 54 2 (.slice (some ⟨w.heap.size, 0, none⟩) 0 0) 0 (flat []) := by
    have := World.ownsRow_made (base := w.heap.size) (e := 54) (size := 2) w #[] 0 (Nat.le_refl _) (by unfold maxLen; omega) (by simp)
    simpa [flat] using this
  have HST := Lib.hid hst
  clear hst
  go_enter Try.func16, Try.ntmps16
  go_wp2
  go_loopw [3, 4] (fun o i wr => ∃ j : Nat, j ≤ N ∧ i = .int .i64 j ∧ (∃ qs, Copies w.heap.size wr ps j o qs) ∧ Same w wr) (fun _ i _ => N - (intOf i).toNat)
  case atStart => exact ⟨0, by omega, rfl, ⟨[], rfl, by simp [kvs], HST.out, fun _ h => by simp at h⟩, (Keeps.refl _ _).alloc _⟩
  case round =>
    obtain ⟨j, hj, rfl, ⟨qs, hq⟩, hs⟩ := hrel
    have HQ := Lib.hid hq
    have HS := Lib.hid hs
    clear hq hs
    by_cases hlt : j < N
    · have hjl : j < ps.length := by have := HN.out; omega
      obtain ⟨g, off, ko, kc, vo, vc, rfl, -, -, c0, c1, bk, bv⟩ := HR.out.at hjl
      have hsz : ps[j].ks.length ≤ 1000000 ∧ ps[j].vs.length ≤ 1000000 := by
        have h1 := psum_snoc ps j hjl
        have h2 := psum_take_le ps (j + 1)
        have h3 : psize ps[j] = 4 + ps[j].ks.length + ps[j].vs.length := rfl
        have := HM.out
        omega
      have HB : Hid (∀ w', Same w w' → Bytes w' (.slice ko ps[j].ks.length kc) ps[j].ks ∧ Bytes w' (.slice vo ps[j].vs.length vc) ps[j].vs) := Lib.hid fun w' hk => ⟨bk.same hk, bv.same hk⟩
      have HO : Hid (wr.ownsRow w.heap.size 54 2 u3 j (flat qs)) := Lib.hid HQ.out.own
      have HSTEP : Hid (∀ (wb w9 : World) (ka va : Addr) (kc vc g cap : Nat), Same wr wb → Bytes wb (.slice (some ka) ps[j].ks.length kc) ps[j].ks → Bytes wb (.slice (some va) ps[j].vs.length vc) ps[j].vs → (ps[j].ks ≠ [] → ka.spot = none ∧ wr.heap.size ≤ ka.block) → (ps[j].vs ≠ [] → va.spot = none ∧ wr.heap.size ≤ va.block) →
          w9.ownsRow w.heap.size 54 2 (.slice (some ⟨g, 0, none⟩) (j + 1) cap) (j + 1) (flat qs ++ [.slice (some ka) ps[j].ks.length kc, .slice (some va) ps[j].vs.length vc]) → wb.grownBy w9 u3.ownBlock → (u3.ownBlock = some g ∨ g = wb.heap.size) → ∃ qs', Copies w.heap.size w9 ps (j + 1) (.slice (some ⟨g, 0, none⟩) (j + 1) cap) qs') :=
        Lib.hid fun wb w9 ka va kc vc g cap a b c d e f g2 h2 => HQ.out.step hjl a b c d e f g2 h2
      generalize ps[j].ks = ks at *
      generalize ps[j].vs = vs at *
      have hjn : (j : Int) < (N : Int) := by omega
      clear bk bv hjl
      go_wp2
      go_region_held3 (fun w' => w'.cell? ⟨g, off + j * 2, none⟩ = some (.slice ko ks.length kc) ∧ w'.cell? ⟨g, off + j * 2 + 1, none⟩ = some (.slice vo vs.length vc) ∧ Same w w')
        ((refine pairS c0 c1 ?_; first | exact hs9 | (refine HS.out.trans ?_ (fun _ _ e => e); repeat (first | exact Keeps.refl _ _ | exact hpb.1 | exact hpa.1 | refine Keeps.drew ?_ | refine Keeps.alloc ?_ _))))
        (first
          | ((refine step_append_empty (by rfl) _ _ 29 5 i0 (by rfl) Try.underlying29 hi0 hz0 hz1 hz2 _ ks (.slice ko ks.length kc) (by rfl) (by rfl) ((HB.out _ (‹_ ∧ _ ∧ Same w _›).2.2).1) (by omega) ?_; intro ka kac wk hsk hbk hfk
              have hpa := fresh_pack (wr := wr) (by repeat (first | exact Keeps.refl _ _ | exact hpb.1 | exact hpa.1 | refine Keeps.drew ?_ | refine Keeps.alloc ?_ _)) hsk hfk
              try (have hvk : Same wv wk := Keeps.trans (by repeat (first | exact Keeps.refl _ _ | refine Keeps.drew ?_ | refine Keeps.alloc ?_ _)) hsk (fun _ _ e => e))))
          | ((refine step_append_empty (by rfl) _ _ 29 5 i0 (by rfl) Try.underlying29 hi0 hz0 hz1 hz2 _ vs (.slice vo vs.length vc) (by rfl) (by rfl) ((HB.out _ (‹_ ∧ _ ∧ Same w _›).2.2).2) (by omega) ?_; intro va vac wv hsv hbv hfv
              have hpb := fresh_pack (wr := wr) (by repeat (first | exact Keeps.refl _ _ | exact hpb.1 | exact hpa.1 | refine Keeps.drew ?_ | refine Keeps.alloc ?_ _)) hsv hfv
              try (have hkv : Same wk wv := Keeps.trans (by repeat (first | exact Keeps.refl _ _ | refine Keeps.drew ?_ | refine Keeps.alloc ?_ _)) hsv (fun _ _ e => e))))
          | ((refine step_append_lies _ (by rfl) _ _ 22 (by rfl) w.heap.size 54 j0 _ 2 48 Try.underlying22 hj0 hy0 hy1 hy2 rfl (by omega) u3 j (flat qs) (by rfl) (own_keeps (hpb.1.alloc _) HO.out (fun _ _ e => e)) ⟨wv.heap.size, 0, none⟩ 1 1 [.slice (some ka) ks.length kac, .slice (some va) vs.length vac] (by rfl) (by rfl)
                (World.news_of_block (cs := #[.slice (some ka) ks.length kac, .slice (some va) vs.length vac]) (t := 54) (fr := (0, 0)) (heap_alloc_new wv _)) (two_cells _ _ _ _ _ _) (by omega) (by unfold maxLen; omega) (by omega) (Nat.le_trans HS.out.size (hpb.1.alloc _).size) _ rfl ?_; intro gg cc w9 hown hgrow hat hlt9
              have hs9 : Same w w9 := ((HS.out.trans hpb.1 (fun _ _ e => e)).alloc _).grown hgrow (fun k e hk => by have := (HO.out.lt k e).1; omega)
              have HC := Lib.hid (HSTEP.out _ w9 ka va kac vac gg cc (hpb.1.alloc _) ((hbk.same hkv).same ((Keeps.refl _ _).alloc _)) (hbv.same ((Keeps.refl _ _).alloc _)) hpa.2 hpb.2 hown hgrow hat)))
          | ((refine step_append_lies _ (by rfl) _ _ 22 (by rfl) w.heap.size 54 j0 _ 2 48 Try.underlying22 hj0 hy0 hy1 hy2 rfl (by omega) u3 j (flat qs) (by rfl) (own_keeps (hpa.1.alloc _) HO.out (fun _ _ e => e)) ⟨wk.heap.size, 0, none⟩ 1 1 [.slice (some ka) ks.length kac, .slice (some va) vs.length vac] (by rfl) (by rfl)
                (World.news_of_block (cs := #[.slice (some ka) ks.length kac, .slice (some va) vs.length vac]) (t := 54) (fr := (0, 0)) (heap_alloc_new wk _)) (two_cells _ _ _ _ _ _) (by omega) (by unfold maxLen; omega) (by omega) (Nat.le_trans HS.out.size (hpa.1.alloc _).size) _ rfl ?_; intro gg cc w9 hown hgrow hat hlt9
              have hs9 : Same w w9 := ((HS.out.trans hpa.1 (fun _ _ e => e)).alloc _).grown hgrow (fun k e hk => by have := (HO.out.lt k e).1; omega)
              have HC := Lib.hid (HSTEP.out _ w9 ka va kac vac gg cc (hpa.1.alloc _) (hbk.same ((Keeps.refl _ _).alloc _)) ((hbv.same hvk).same ((Keeps.refl _ _).alloc _)) hpa.2 hpb.2 hown hgrow hat))))
      all_goals
        have HS9 := Lib.hid hs9
        clear hs9 hown hgrow hat hlt9
        go_wp2
        go_roundw
        case rel => exact ⟨j + 1, by omega, by go_num, HC.out, HS9.out⟩
        case measure => simp [intOf]; omega
    · obtain rfl : j = N := by omega
      obtain ⟨ao', cap', rfl, hp, hc, hkv⟩ := (show Copies w.heap.size wr ps ps.length u3 qs from HN.out ▸ HQ.out).pairs
      have hql : qs.length = j := HQ.out.len
      have HP := Lib.hid hp
      have HKV := Lib.hid hkv
      rw [hql] at hc ⊢
      clear hp hkv
      go_wp2
      go_ret
      exact ⟨ao', cap', qs, rfl, hql, hc, HP.out, HKV.out, HS.out⟩

end Go.Proofs.Ytdeajjppmgfemaa
