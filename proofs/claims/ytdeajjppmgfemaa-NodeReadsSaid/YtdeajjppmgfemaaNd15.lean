/- The document's Copy of a node: all of it is new. -/
import Derived.Test.YtdeajjppmgfemaaNd9
import Derived.Test.YtdeajjppmgfemaaNd6
namespace Go.Proofs.Ytdeajjppmgfemaa
open Go.RowKit
set_option linter.unusedVariables false

theorem far_of {base : Nat} {row : Option Nat} {a : Addr} {n c lo : Nat} {bs : List UInt8} (h : bs ≠ [] → a.spot = none ∧ lo ≤ a.block) (hr : ∀ j, row = some j → j < lo) (hb : base ≤ lo) : TextFar base row (.slice (some a) n c) bs := fun a' n' c' e h0 => by
  simp only [Value.slice.injEq, Option.some.injEq] at e
  obtain ⟨rfl, _, _⟩ := e
  obtain ⟨h1, h2⟩ := h h0
  exact ⟨h1, fun e => by have := hr _ e; omega, by omega⟩

set_option maxRecDepth 100000 in
set_option maxHeartbeats 12800000 in
theorem copyPairs_row (ao : Option Addr) (cap N : Nat) (ps : List PairX) (w : World) (hr : Pairs w ao ps) (hN : ps.length = N) (hm : psum ps ≤ 1000000) :
    Calls Try.prog 16 #[.slice ao N cap] w fun e w' => ∃ v qs, e = .returned v ∧ List.length qs = N ∧ PRow w.heap.size w' v qs ∧ kvs qs = kvs ps ∧ Same w w' := by
  have HR := Lib.hid hr
  have HN := Lib.hid hN
  have hlen : N ≤ 1000000 := by have := psum_len ps; omega
  have HM := Lib.hid hm
  clear hr hN hm
  obtain ⟨i0, hi0, hz0, hz1, hz2⟩ := info_parts8 Try.infoU8
  obtain ⟨j0, hj0, hy0, hy1, hy2⟩ := info_parts8 Try.infoPair
  have hst : PRow w.heap.size (w.alloc (.cells #[] 54)) (.slice (some ⟨w.heap.size, 0, none⟩) 0 0) [] := ⟨by
    have := World.ownsRow_made (base := w.heap.size) (e := 54) (size := 2) w #[] 0 (Nat.le_refl _) (by unfold maxLen; omega) (by simp)
    simpa [flat] using this, fun _ h => by simp at h, fun _ h => by simp at h⟩
  have HST := Lib.hid hst
  clear hst
  go_enter Try.func16, Try.ntmps16
  go_wp2
  go_loopw [3, 4] (fun o i wr => ∃ j : Nat, j ≤ N ∧ i = .int .i64 j ∧ (∃ qs, List.length qs = j ∧ PRow w.heap.size wr o qs ∧ kvs qs = kvs (ps.take j)) ∧ Same w wr) (fun _ i _ => N - (intOf i).toNat)
  case atStart => exact ⟨0, by omega, rfl, ⟨[], rfl, HST.out, by simp [kvs]⟩, (Keeps.refl _ _).alloc _⟩
  case round =>
    obtain ⟨j, hj, rfl, ⟨qs, hql, hq, hkv⟩, hs⟩ := hrel
    have HQ := Lib.hid hq
    have HS := Lib.hid hs
    have HKV := Lib.hid hkv
    have HQL := Lib.hid hql
    clear hq hs hkv hql
    by_cases hlt : j < N
    · have hjl : j < ps.length := by have := HN.out; omega
      obtain ⟨g, off, ko, kc, vo, vc, rfl, -, -, c0, c1, bk, bv⟩ := HR.out.at hjl
      have hsz : ps[j].ks.length ≤ 1000000 ∧ ps[j].vs.length ≤ 1000000 := by
        have h1 := psum_snoc ps j hjl
        have h2 := psum_take_le ps (j + 1)
        have h3 : psize ps[j] = 4 + ps[j].ks.length + ps[j].vs.length := rfl
        have := HM.out
        omega
      have HB : Hid (∀ w', Same w w' → Bytes w' (.slice ko ps[j].ks.length kc) ps[j].ks ∧ Bytes w' (.slice vo ps[j].vs.length vc) ps[j].vs) := Lib.hid fun w' hk => ⟨bk.same hk, bv.same hk⟩
      have HO : Hid (wr.ownsRow w.heap.size 54 2 u3 j (flat qs)) := Lib.hid (by have := HQ.out.own; rw [HQL.out] at this; exact this)
      have HSTEP : Hid (∀ (wb w9 : World) (ka va : Addr) (kc vc g cap : Nat), Same wr wb → Bytes wb (.slice (some ka) ps[j].ks.length kc) ps[j].ks → Bytes wb (.slice (some va) ps[j].vs.length vc) ps[j].vs → (ps[j].ks ≠ [] → ka.spot = none ∧ wr.heap.size ≤ ka.block) → (ps[j].vs ≠ [] → va.spot = none ∧ wr.heap.size ≤ va.block) →
          w9.ownsRow w.heap.size 54 2 (.slice (some ⟨g, 0, none⟩) (j + 1) cap) (j + 1) (flat qs ++ [.slice (some ka) ps[j].ks.length kc, .slice (some va) ps[j].vs.length vc]) → wb.grownBy w9 u3.ownBlock → (u3.ownBlock = some g ∨ g = wb.heap.size) → ∃ qs', List.length qs' = j + 1 ∧ PRow w.heap.size w9 (.slice (some ⟨g, 0, none⟩) (j + 1) cap) qs' ∧ kvs qs' = kvs (ps.take (j + 1))) :=
        Lib.hid fun wb w9 ka va kc vc g cap a b c d e f g2 h2 => by
          have hown : ∀ q, u3.ownBlock = some q → q < wr.heap.size := fun q e => (HQ.out.own.lt q e).2
          have h := (HQ.out.same a).step ⟨.slice (some ka) ps[j].ks.length kc, ps[j].ks, .slice (some va) ps[j].vs.length vc, ps[j].vs⟩ b c (far_of d hown HS.out.size) (far_of e hown HS.out.size) (by rw [HQL.out]; exact f) g2 (by
            rcases h2 with h | h
            · exact .inl h
            · exact .inr (by omega))
          rw [HQL.out] at h
          refine ⟨_, by rw [List.length_append, HQL.out]; rfl, h, ?_⟩
          rw [List.take_succ_eq_append_getElem hjl]
          have := HKV.out
          simp only [kvs, List.map_append, List.map_cons, List.map_nil] at this ⊢
          rw [this]
      generalize ps[j].ks = ks at *
      generalize ps[j].vs = vs at *
      have hjn : (j : Int) < (N : Int) := by omega
      clear bk bv hjl
      go_wp2
      go_region_held3 (fun w' => w'.cell? ⟨g, off + j * 2, none⟩ = some (.slice ko ks.length kc) ∧ w'.cell? ⟨g, off + j * 2 + 1, none⟩ = some (.slice vo vs.length vc) ∧ Same w w')
        ((refine pairS c0 c1 ?_; first | exact hs9 | (refine HS.out.trans ?_ (fun _ _ e => e); repeat (first | exact Keeps.refl _ _ | exact hpb.1 | exact hpa.1 | refine Keeps.drew ?_ | refine Keeps.alloc ?_ _))))
        (first
          | ((refine step_append_empty (by rfl) _ _ 29 5 i0 (by rfl) Try.underlying29 hi0 hz0 hz1 hz2 _ ks (.slice ko ks.length kc) (by rfl) (by rfl) ((HB.out _ (‹_ ∧ _ ∧ Same w _›).2.2).1) (by omega) ?_; intro ka kac wk hsk hbk hfk
              have hpa := fresh_pack (wr := wr) (by repeat (first | exact Keeps.refl _ _ | exact hpb.1 | exact hpa.1 | refine Keeps.drew ?_ | refine Keeps.alloc ?_ _)) hsk hfk
              try (have hvk : Same wv wk := Keeps.trans (by repeat (first | exact Keeps.refl _ _ | refine Keeps.drew ?_ | refine Keeps.alloc ?_ _)) hsk (fun _ _ e => e))))
          | ((refine step_append_empty (by rfl) _ _ 29 5 i0 (by rfl) Try.underlying29 hi0 hz0 hz1 hz2 _ vs (.slice vo vs.length vc) (by rfl) (by rfl) ((HB.out _ (‹_ ∧ _ ∧ Same w _›).2.2).2) (by omega) ?_; intro va vac wv hsv hbv hfv
              have hpb := fresh_pack (wr := wr) (by repeat (first | exact Keeps.refl _ _ | exact hpb.1 | exact hpa.1 | refine Keeps.drew ?_ | refine Keeps.alloc ?_ _)) hsv hfv
              try (have hkv : Same wk wv := Keeps.trans (by repeat (first | exact Keeps.refl _ _ | refine Keeps.drew ?_ | refine Keeps.alloc ?_ _)) hsv (fun _ _ e => e))))
          | ((refine step_append_lies _ (by rfl) _ _ 22 (by rfl) w.heap.size 54 j0 _ 2 48 Try.underlying22 hj0 hy0 hy1 hy2 rfl (by omega) u3 j (flat qs) (by rfl) (own_keeps (hpb.1.alloc _) HO.out (fun _ _ e => e)) ⟨wv.heap.size, 0, none⟩ 1 1 [.slice (some ka) ks.length kac, .slice (some va) vs.length vac] (by rfl) (by rfl)
                (World.news_of_block (cs := #[.slice (some ka) ks.length kac, .slice (some va) vs.length vac]) (t := 54) (fr := (0, 0)) (heap_alloc_new wv _)) (two_cells _ _ _ _ _ _) (by omega) (by unfold maxLen; omega) (by omega) (Nat.le_trans HS.out.size (hpb.1.alloc _).size) _ rfl ?_; intro gg cc w9 hown hgrow hat hlt9
              have hs9 : Same w w9 := ((HS.out.trans hpb.1 (fun _ _ e => e)).alloc _).grown hgrow (fun k e hk => by have := (HO.out.lt k e).1; omega)
              have HC := Lib.hid (HSTEP.out _ w9 ka va kac vac gg cc (hpb.1.alloc _) ((hbk.same hkv).same ((Keeps.refl _ _).alloc _)) (hbv.same ((Keeps.refl _ _).alloc _)) hpa.2 hpb.2 hown hgrow hat)))
          | ((refine step_append_lies _ (by rfl) _ _ 22 (by rfl) w.heap.size 54 j0 _ 2 48 Try.underlying22 hj0 hy0 hy1 hy2 rfl (by omega) u3 j (flat qs) (by rfl) (own_keeps (hpa.1.alloc _) HO.out (fun _ _ e => e)) ⟨wk.heap.size, 0, none⟩ 1 1 [.slice (some ka) ks.length kac, .slice (some va) vs.length vac] (by rfl) (by rfl)
                (World.news_of_block (cs := #[.slice (some ka) ks.length kac, .slice (some va) vs.length vac]) (t := 54) (fr := (0, 0)) (heap_alloc_new wk _)) (two_cells _ _ _ _ _ _) (by omega) (by unfold maxLen; omega) (by omega) (Nat.le_trans HS.out.size (hpa.1.alloc _).size) _ rfl ?_; intro gg cc w9 hown hgrow hat hlt9
              have hs9 : Same w w9 := ((HS.out.trans hpa.1 (fun _ _ e => e)).alloc _).grown hgrow (fun k e hk => by have := (HO.out.lt k e).1; omega)
              have HC := Lib.hid (HSTEP.out _ w9 ka va kac vac gg cc (hpa.1.alloc _) (hbk.same ((Keeps.refl _ _).alloc _)) ((hbv.same hvk).same ((Keeps.refl _ _).alloc _)) hpa.2 hpb.2 hown hgrow hat))))
      all_goals
        have HS9 := Lib.hid hs9
        clear hs9 hown hgrow hat hlt9
        go_wp2
        go_roundw
        case rel => exact ⟨j + 1, by omega, by go_num, HC.out, HS9.out⟩
        case measure => simp [intOf]; omega
    · obtain rfl : j = N := by omega
      go_wp2
      go_ret
      exact ⟨_, qs, rfl, HQL.out, HQ.out, by rw [HKV.out, List.take_of_length_le (by rw [HN.out]; exact Nat.le_refl _)], HS.out⟩

theorem PRow.base {base lo : Nat} {w : World} {v : Value} {qs : List PairX} (h : PRow base w v qs) (hb : lo ≤ base) : PRow lo w v qs :=
  ⟨own_base h.own hb, h.bk, fun q hq => ⟨fun a n c e h0 => ⟨((h.far q hq).1 a n c e h0).1, ((h.far q hq).1 a n c e h0).2.1, Nat.le_trans hb ((h.far q hq).1 a n c e h0).2.2⟩, fun a n c e h0 => ⟨((h.far q hq).2 a n c e h0).1, ((h.far q hq).2 a n c e h0).2.1, Nat.le_trans hb ((h.far q hq).2 a n c e h0).2.2⟩⟩⟩
theorem PRow.formed {base : Nat} {w : World} {v : Value} {qs : List PairX} {n : Nat} (h : PRow base w v qs) (hn : qs.length = n) : ∃ ao cap, v = .slice ao n cap ∧ PRow base w (.slice ao n cap) qs := by
  obtain ⟨ao, cap, e, _, _⟩ := h.pairs
  rw [hn] at e
  exact ⟨ao, cap, e, by rw [← e]; exact h⟩
def PRowB (p : Nat → Prop) (v : Value) (qs : List PairX) : Prop := (∀ j, v.ownBlock = some j → p j) ∧ ∀ q ∈ qs, (∀ a n c, q.kv = .slice (some a) n c → q.ks ≠ [] → p a.block) ∧ (∀ a n c, q.vv = .slice (some a) n c → q.vs ≠ [] → p a.block)
theorem PRowB.imp {p r : Nat → Prop} {v : Value} {qs : List PairX} (h : PRowB p v qs) (hi : ∀ j, p j → r j) : PRowB r v qs :=
  ⟨fun j e => hi _ (h.1 j e), fun q hq => ⟨fun a n c e h0 => hi _ ((h.2 q hq).1 a n c e h0), fun a n c e h0 => hi _ ((h.2 q hq).2 a n c e h0)⟩⟩
theorem bytes_keepS {S : Nat → Prop} {w w' : World} {x : Value} {bs : List UInt8} (h : Bytes w x bs) (k : Keeps S w w') (hs : ∀ a n c, x = .slice (some a) n c → bs ≠ [] → ¬ S a.block) : Bytes w' x bs := by
  by_cases h0 : bs = []
  · subst h0
    obtain ⟨ao, c, rfl⟩ := h.form
    exact Bytes.nil _ _ _
  · exact h.keeps k fun a n c e => hs a n c e h0
theorem PRow.keepS {S : Nat → Prop} {base : Nat} {w w' : World} {v : Value} {qs : List PairX} (h : PRow base w v qs) (k : Keeps S w w') (hb : PRowB (fun j => ¬ S j) v qs) : PRow base w' v qs :=
  ⟨own_keeps k h.own hb.1, fun q hq => ⟨bytes_keepS (h.bk q hq).1 k (hb.2 q hq).1, bytes_keepS (h.bk q hq).2 k (hb.2 q hq).2⟩, h.far⟩
theorem PRow.below {base bs0 : Nat} {p : Nat → Prop} {w : World} {v : Value} {qs : List PairX} (h : PRow base w v qs) (hb : PRowB p v qs) (hl : w.heap.size ≤ bs0) : PRowB (fun j => p j ∧ j < bs0) v qs :=
  ⟨fun j e => ⟨hb.1 j e, by have := (h.own.lt j e).2; omega⟩, fun q hq => ⟨fun a n c e h0 => ⟨(hb.2 q hq).1 a n c e h0, by
    have h1 := (h.bk q hq).1
    rw [e] at h1
    have := bytes_lt h1 h0; omega⟩, fun a n c e h0 => ⟨(hb.2 q hq).2 a n c e h0, by
    have h1 := (h.bk q hq).2
    rw [e] at h1
    have := bytes_lt h1 h0; omega⟩⟩⟩
theorem nd_own_type {w : World} {b : Nat} {e : TypeId} {sz : Nat} {v : Value} {n : Nat} {xs : List Value} (h : w.ownsRow b e sz v n xs) {k : Nat} (hk : v.ownBlock = some k) : ∃ cur, w.heap[k]? = some (.cells cur e (0, 0)) := by
  rcases h.2 with ⟨e, _⟩ | ⟨g, cp, cur, e, _, hg, _⟩
  · rw [e] at hk; simp [Value.ownBlock] at hk
  · rw [e] at hk
    obtain rfl : g = k := by cases hk; rfl
    exact ⟨cur, hg⟩
theorem text_off {w : World} {G n c : Nat} {cs : Array Value} {T : TypeId} {a : Addr} {bs : List UInt8} (hG : w.heap[G]? = some (.cells cs T (0, 0))) (hc : ∀ (j : Nat) (x : Int), cs[j]? ≠ some (.int .u8 x)) (hb : Bytes w (.slice (some a) n c) bs) (h0 : bs ≠ []) (hs : a.spot = none) : a.block ≠ G := by
  rintro rfl
  rcases hb with ⟨a', c', e, h⟩ | ⟨c', e, _⟩
  · simp only [Value.slice.injEq, Option.some.injEq] at e
    obtain ⟨rfl, _, _⟩ := e
    cases bs with
    | nil => exact h0 rfl
    | cons b r =>
      have h1 := h 0 _ rfl
      obtain ⟨g, o, sp⟩ := a
      simp only at hs hG
      subst hs
      rw [add_at] at h1
      rw [cell_of_row w g (o + 0) cs T (0, 0) hG] at h1
      exact hc _ _ h1
  · simp at e
theorem PRow.off {base G : Nat} {T : TypeId} {cs : Array Value} {w w' : World} {v : Value} {qs : List PairX} (h : PRow base w v qs) (hG : w.heap[G]? = some (.cells cs T (0, 0))) (hT : T ≠ 54) (hc : ∀ (j : Nat) (x : Int), cs[j]? ≠ some (.int .u8 x)) (k : Keeps (fun q => q = G) w w') :
    PRow base w' v qs ∧ PRowB (fun j => j ≠ G) v qs := by
  have hB : PRowB (fun j => j ≠ G) v qs := ⟨fun j e e2 => by
    obtain ⟨cur, h1⟩ := nd_own_type h.own e
    rw [e2, hG] at h1
    simp only [Option.some.injEq, Obj.cells.injEq] at h1
    exact hT h1.2.1, fun q hq => ⟨fun a n c e h0 => by
      have h1 := (h.bk q hq).1
      have hf := ((h.far q hq).1 a n c e h0).1
      rw [e] at h1
      exact text_off hG hc h1 h0 hf, fun a n c e h0 => by
      have h1 := (h.bk q hq).2
      have hf := ((h.far q hq).2 a n c e h0).1
      rw [e] at h1
      exact text_off hG hc h1 h0 hf⟩⟩
  exact ⟨h.keepS k hB, hB⟩
theorem nd_no8 (lv : Int) (po : Option Addr) (pn pc : Nat) (ko : Option Addr) (kn kc : Nat) : ∀ (j : Nat) (x : Int), (#[.int .i64 lv, .slice po pn pc, .slice ko kn kc] : Array Value)[j]? ≠ some (.int .u8 x) := fun j x h => by
  match j with
  | 0 => simp at h
  | 1 => simp at h
  | 2 => simp at h
  | j + 3 => simp at h
def PairsV (n : Nat) (l : List (List UInt8 × List UInt8)) (lo : Nat) (w : World) (v : Value) : Prop := ∃ qs, List.length qs = n ∧ PRow lo w v qs ∧ kvs qs = l
theorem PairsV.keep (n : Nat) (l : List (List UInt8 × List UInt8)) (Sx : Nat → Prop) (lo : Nat) (w w' : World) (v : Value) (hS : ∀ k, Sx k → k < lo) (h : PairsV n l lo w v) (k : Keeps Sx w w') : PairsV n l lo w' v := by
  obtain ⟨qs, h1, h2, h3⟩ := h
  exact ⟨qs, h1, h2.keep k hS, h3⟩
def NodeVP (lv : Int) (n : Nat) (l : List (List UInt8 × List UInt8)) (lo : Nat) (w : World) (v : Value) : Prop := ∃ ao cp, v = .agg #[.int .i64 lv, .slice ao n cp, .slice none 0 0] ∧ ∃ qs, List.length qs = n ∧ PRow lo w (.slice ao n cp) qs ∧ kvs qs = l
theorem NodeVP.keep (lv : Int) (n : Nat) (l : List (List UInt8 × List UInt8)) (Sx : Nat → Prop) (lo : Nat) (w w' : World) (v : Value) (hS : ∀ k, Sx k → k < lo) (h : NodeVP lv n l lo w v) (k : Keeps Sx w w') : NodeVP lv n l lo w' v := by
  obtain ⟨ao, cp, e, qs, h1, h2, h3⟩ := h
  exact ⟨ao, cp, e, qs, h1, h2.keep k hS, h3⟩
theorem fresh_keep {Sx : Nat → Prop} {lo : Nat} {w w' : World} {a : Addr} {n c : Nat} {fs : List UInt8} (hS : ∀ k, Sx k → k < lo) (hb : Bytes w (.slice (some a) n c) fs) (hf : fs ≠ [] → a.spot = none ∧ lo ≤ a.block) (k : Keeps Sx w w') : Bytes w' (.slice (some a) n c) fs :=
  bytes_keep (base := lo) (row := none) hb (fun a' n' c' e h0 => by
    simp only [Value.slice.injEq, Option.some.injEq] at e
    obtain ⟨rfl, _, _⟩ := e
    exact ⟨(hf h0).1, by simp, (hf h0).2⟩) k hS
def TextV (fs : List UInt8) (lo : Nat) (w : World) (v : Value) : Prop := ∃ a c, v = .slice (some a) fs.length c ∧ Bytes w (.slice (some a) fs.length c) fs ∧ (fs ≠ [] → a.spot = none ∧ lo ≤ a.block)
theorem TextV.keep (fs : List UInt8) (Sx : Nat → Prop) (lo : Nat) (w w' : World) (v : Value) (hS : ∀ k, Sx k → k < lo) (h : TextV fs lo w v) (k : Keeps Sx w w') : TextV fs lo w' v := by
  obtain ⟨a, c, e, hb, hf⟩ := h
  exact ⟨a, c, e, fresh_keep hS hb hf k, hf⟩
def KidV (fs hs : List UInt8) (lo : Nat) (w : World) (v : Value) : Prop := ∃ a c, v = .agg (Value.slice (some a) fs.length c :: u8s hs).toArray ∧ Bytes w (.slice (some a) fs.length c) fs ∧ (fs ≠ [] → a.spot = none ∧ lo ≤ a.block)
theorem KidV.keep (fs hs : List UInt8) (Sx : Nat → Prop) (lo : Nat) (w w' : World) (v : Value) (hS : ∀ k, Sx k → k < lo) (h : KidV fs hs lo w v) (k : Keeps Sx w w') : KidV fs hs lo w' v := by
  obtain ⟨a, c, e, hb, hf⟩ := h
  exact ⟨a, c, e, fresh_keep hS hb hf k, hf⟩
def KidL (fs hs : List UInt8) (lo : Nat) (w : World) (v : Value) : Prop := ∃ G a c, v = .slice (some ⟨G, 0, none⟩) 1 1 ∧ lo ≤ G ∧ w.heap[G]? = some (.cells (KidX.mk (.slice (some a) fs.length c) fs hs).cells.toArray 46 (0, 0)) ∧ Bytes w (.slice (some a) fs.length c) fs ∧ (fs ≠ [] → a.spot = none ∧ lo ≤ a.block)
theorem KidL.keep (fs hs : List UInt8) (Sx : Nat → Prop) (lo : Nat) (w w' : World) (v : Value) (hS : ∀ k, Sx k → k < lo) (h : KidL fs hs lo w v) (k : Keeps Sx w w') : KidL fs hs lo w' v := by
  obtain ⟨G, a, c, e, hG, hl, hb, hf⟩ := h
  exact ⟨G, a, c, e, hG, k.obj hl (fun e => by have := hS _ e; omega), fresh_keep hS hb hf k, hf⟩
def CopyE (base : Nat) (kv : Value) (qs : List KidX) (fs hs : List UInt8) : Nat → Value → World → Prop
  | 0, _, w => KRow base w kv qs
  | _ + 1, v, w => ∃ g cap ka kc, v = .slice (some ⟨g, 0, none⟩) (qs.length + 1) cap ∧ KRow base w v (qs ++ [⟨.slice (some ka) fs.length kc, fs, hs⟩])
theorem CopyE.same {base : Nat} {kv : Value} {qs : List KidX} {fs hs : List UInt8} (q : Nat) (v : Value) (w w' : World) (h : CopyE base kv qs fs hs q v w) (k : Same w w') : CopyE base kv qs fs hs q v w' := by
  cases q with
  | zero => exact KRow.same h k
  | succ q =>
    obtain ⟨g, c, ka, kc, e, h1⟩ := h
    exact ⟨g, c, ka, kc, e, h1.same k⟩

/-- What Copy of a node gives. -/
def CopyPost (w : World) (lv : Int) (pn kn : Nat) (ps : List PairX) (ks : List KidX) (e : Ending) (w' : World) : Prop := Same w w' ∧ ∃ po pc ko kc qs ls, e = .returned (nodeV lv po pn pc ko kn kc) ∧ List.length qs = pn ∧ List.length ls = kn ∧ NodeAt w' po ko qs ls pc kc ∧ kvs qs = kvs ps ∧ kks ls = kks ks

set_option maxRecDepth 100000 in
set_option maxHeartbeats 12800000 in
theorem copyNode_any (lv : Int) (po ko : Option Addr) (pn pc kn kc : Nat) (ps : List PairX) (ks : List KidX) (w : World) (h : NodeAt w po ko ps ks pc kc) (hp : ps.length = pn) (hk : ks.length = kn) (hps : psum ps ≤ 1000000) (hks : ∀ k ∈ ks, k.fs.length ≤ 1000000) (hkn : kn ≤ 300) :
    Calls Try.prog 9 #[nodeV lv po pn pc ko kn kc] w (CopyPost w lv pn kn ps ks) := by
  obtain ⟨i0, hi0, hz0, hz1, hz2⟩ := info_parts8 Try.infoU8
  obtain ⟨ie, hie, hj0, hj1, hj2⟩ := info_parts8 Try.infoKidR
  have HZ := Lib.hid hj0
  obtain ⟨w1, hw1⟩ : ∃ w1, (w.alloc (.cells #[.int .i64 lv, .slice po pn pc, .slice ko kn kc] 25)).alloc (.cells #[.int .i64 0, .slice none 0 0, .slice none 0 0] 25) = w1 := ⟨_, rfl⟩
  have HB : Hid (w1.heap[w.heap.size]? = some (.cells #[.int .i64 lv, .slice po pn pc, .slice ko kn kc] 25 (0, 0))) := Lib.hid (by rw [← hw1]; exact heap_alloc2_old w _ _)
  have HR0 : Hid (w1.heap[w.heap.size + 1]? = some (.cells #[.int .i64 0, .slice none 0 0, .slice none 0 0] 25 (0, 0))) := Lib.hid (by rw [← hw1]; exact heap_alloc2_new w _ _)
  have HS0 : Hid (Same w w1) := Lib.hid (by rw [← hw1]; exact ((Keeps.refl _ _).alloc _).alloc _)
  have HW1 := Lib.hid hw1
  have HSZ1 : Hid (w1.heap.size = w.heap.size + 2) := Lib.hid (by rw [← hw1]; simp)
  have HH := Lib.hid h
  have HPL : Hid (ps.length = pn) := Lib.hid hp
  have HKL : Hid (ks.length = kn) := Lib.hid hk
  have HKS := Lib.hid hks
  have HIO := Lib.hid Try.sizeNode
  have HSS : Hid (∀ hs : List UInt8, hs.length = 32 → (Try.prog.info? 44).map (fun i => i.size) = some (u8s hs).length) := Lib.hid (fun hs h => by rw [u8s_length, h]; kernel_rfl)
  clear h hp hk hw1 hks hj0
  go_enter Try.func9, Try.ntmps9
  go_wp2
  rw [HW1.out]
  refine wp_region_tail [[], [0], [], [2], [3], [1, 4], [], [6, 5, 4, 0, 1, 2, 3, 4, 5, 6]]
    [some 5, some 6, some 7, some 8, some 9, some 10, some 3, none]
    [.is (.pointer (some ⟨w.heap.size, 0, none⟩)), .is (.int .i64 lv), .is (.pointer (some ⟨w.heap.size, 1, none⟩)), .is (.slice po pn pc), .ex (PairsV pn (kvs ps)) (PairsV.keep _ _), .ex (NodeVP lv pn (kvs ps)) (NodeVP.keep _ _ _), .fresh 25 #[.int .i64 0, .slice none 0 0, .slice none 0 0], .any]
    (fun _ => False) [] (fun _ _ => True) 1 _ _ 39 7 8 (by kernel_rfl) (by rfl) (by rfl) (by omega) (by kernel_rfl) (by kernel_rfl) (by decide) (by decide) (fun _ e => e.elim) trivial (fun _ _ _ h _ => h) ?_ ?_
  · refine ⟨?_, ?_, ?_, ?_, ?_, ?_, ?_, trivial⟩
    · intro a w' K hs' hdep hfr hK
      have f1 := hfr 1 (by decide)
      exact plan_do (by rfl) (plan_yield (i := 0) (V := fun _ _ v => v = (.pointer (some ⟨w.heap.size, 0, none⟩) : Value)) (.pointer (some ⟨w.heap.size, 0, none⟩)) (by go_simp) rfl hK)
    · intro a w' K hs' hdep hfr hK
      have e5 : a.tmps[5]?.getD undef = (.pointer (some ⟨w.heap.size, 0, none⟩)) := hdep 0 (by decide) 5 rfl
      obtain ⟨cl0, cl1, cl2⟩ := cell_of_three (hs'.obj HB.out (fun e => e))
      exact plan_do (by rfl) (plan_yield (i := 1) (V := fun _ _ v => v = (.int .i64 lv : Value)) (.int .i64 lv) (by go_simp) rfl hK)
    · intro a w' K hs' hdep hfr hK
      have f1 := hfr 1 (by decide)
      exact plan_do (by rfl) (plan_yield (i := 2) (V := fun _ _ v => v = (.pointer (some ⟨w.heap.size, 1, none⟩) : Value)) (.pointer (some ⟨w.heap.size, 1, none⟩)) (by go_simp) rfl hK)
    · intro a w' K hs' hdep hfr hK
      have e7 : a.tmps[7]?.getD undef = (.pointer (some ⟨w.heap.size, 1, none⟩)) := hdep 2 (by decide) 7 rfl
      obtain ⟨cl0, cl1, cl2⟩ := cell_of_three (hs'.obj HB.out (fun e => e))
      exact plan_do (by rfl) (plan_yield (i := 3) (V := fun _ _ v => v = (.slice po pn pc : Value)) (.slice po pn pc) (by go_simp) rfl hK)
    · intro a w' K hs' hdep hfr hK
      have e8 : a.tmps[8]?.getD undef = (.slice po pn pc) := hdep 3 (by decide) 8 rfl
      refine plan_do (by rfl) (plan_call 16 #[.slice po pn pc] (by go_simp) ?_)
      exact (copyPairs_row po pc pn ps w' (HH.out.pairs.same (HS0.out.trans hs' (fun _ _ e => e))) HPL.out hps).mono fun e w'' ⟨v, qs, he, hl, hp, hk, hs⟩ => ⟨_, he, hK _ _ hs ⟨qs, hl, PRow.base hp hs'.size, hk⟩⟩
    · intro a w' K hs' hdep hfr hK
      have e6 : a.tmps[6]?.getD undef = (.int .i64 lv) := hdep 1 (by decide) 6 rfl
      obtain ⟨qs, hql, hqp, hqk⟩ : PairsV pn (kvs ps) w1.heap.size w' (a.tmps[9]?.getD undef) := hdep 4 (by decide) 9 rfl
      obtain ⟨ao, cp, he9, hqq⟩ := hqp.formed hql
      have e9 := he9
      exact plan_do (by rfl) (plan_go (.agg #[.int .i64 lv, .slice ao pn cp, .slice none 0 0]) w' (by go_simp) (hK _ _ (Keeps.refl _ _) ⟨ao, cp, rfl, qs, hql, hqq, hqk⟩))
    · intro a w' K hs' hdep hfr hK
      exact plan_do (by rfl) (plan_go (.pointer (some ⟨w'.heap.size, 0, none⟩)) (w'.alloc (.cells #[.int .i64 0, .slice none 0 0, .slice none 0 0] 25)) (by go_simp) (hK _ _ ((Keeps.refl _ _).alloc _) ⟨_, rfl, hs'.size, heap_alloc_new w' _⟩))
  intro a wz hkz hdef hsz hv hfr hEz
  obtain ⟨ao, cp, e10, qs0, hql0, hqp, hqk0⟩ : NodeVP lv pn (kvs ps) w1.heap.size wz (a.tmps[10]?.getD undef) := hv 5 10 (by omega) rfl
  obtain ⟨G, e3, hG, hcell⟩ : ∃ G, a.tmps[3]?.getD undef = .pointer (some ⟨G, 0, none⟩) ∧ w1.heap.size ≤ G ∧ wz.heap[G]? = some (.cells #[.int .i64 0, .slice none 0 0, .slice none 0 0] 25 (0, 0)) := hv 6 3 (by omega) rfl
  have he := act_eq a _ [some 5, some 6, some 7, some 8, some 9, some 10, some 3, none] 39 rfl hsz hdef hfr (fun d => a.tmps[d]?.getD undef) (fun _ _ => rfl)
  obtain ⟨v5, h5⟩ : ∃ v, a.tmps[5]?.getD undef = v := ⟨_, rfl⟩
  obtain ⟨v6, h6⟩ : ∃ v, a.tmps[6]?.getD undef = v := ⟨_, rfl⟩
  obtain ⟨v7, h7⟩ : ∃ v, a.tmps[7]?.getD undef = v := ⟨_, rfl⟩
  obtain ⟨v8, h8⟩ : ∃ v, a.tmps[8]?.getD undef = v := ⟨_, rfl⟩
  obtain ⟨v9, h9⟩ : ∃ v, a.tmps[9]?.getD undef = v := ⟨_, rfl⟩
  simp only [putAll, e10, e3, h5, h6, h7, h8, h9, List.setIfInBounds_toArray, List.set_cons_zero, List.set_cons_succ] at he
  clear e10 e3 h5 h6 h7 h8 h9 hdef hsz hv hfr
  subst he
  obtain ⟨w2, hw2⟩ : ∃ w2, wz.setRow G #[.int .i64 lv, .slice ao pn cp, .slice none 0 0] = w2 := ⟨_, rfl⟩
  have HNA : Hid ((#[.int .i64 lv, .slice ao pn cp, .slice none 0 0] : Array Value).all (·.oneCell') = true) := Lib.hid (by simp [Value.oneCell'])
  refine wpList_store_row (by rfl) 25 (.tmp 3) (.tmp 10) (by rfl) G #[.int .i64 lv, .slice ao pn cp, .slice none 0 0] (by rfl) (by rfl) 25 _ hcell HIO.out rfl HNA.out ?_
  rw [hw2]
  have hGlt : G < wz.heap.size := lt_of_block hcell
  have hGW : w2.heap[G]? = some (.cells #[.int .i64 lv, .slice ao pn cp, .slice none 0 0] 25 (0, 0)) := by rw [← hw2]; exact Whole.row (cs := [.int .i64 0, .slice none 0 0, .slice none 0 0]) (ds := [.int .i64 lv, .slice ao pn cp, .slice none 0 0]) hcell
  have hk12 : Same w1 w2 := by rw [← hw2]; exact hkz.setRow _ _ (.inl hG)
  have hkG : Keeps (fun q => q = G) wz w2 := by rw [← hw2]; exact (Keeps.refl _ _).setRow _ _ (.inr rfl)
  have HPO := Lib.hid (hqp.off hcell (by decide) (nd_no8 _ _ _ _ _ _ _) hkG)
  have hz1' := hkz.size
  have hz2' := hk12.size
  have hzw : wz.heap.size ≤ w2.heap.size := hkG.size
  have HPB : Hid (PRowB (fun j => j ≠ G ∧ j < w2.heap.size) (.slice ao pn cp) qs0) := Lib.hid (hqp.below HPO.out.2 (by omega))
  have HPR2 := Lib.hid HPO.out.1
  have HB2 := Lib.hid (hk12.obj HB.out (fun e => e))
  have HR2 := Lib.hid (hk12.obj HR0.out (fun e => e))
  have HS2 := Lib.hid (HS0.out.trans hk12 (fun _ _ e => e))
  have HGG := Lib.hid hGW
  have hGb : w.heap.size + 1 < G ∧ G < w2.heap.size := by have := HSZ1.out; omega
  obtain ⟨b0, b1, b2⟩ := cell_of_three HB2.out
  clear hcell hGW hk12 hkG hkz hqp hw2 HPO HNA
  go_wp2
  clear b0 b1 b2
  go_loopw [4] (fun i wr => ∃ (j : Nat) (kv : Value) (ls : List KidX), j ≤ kn ∧ i = .int .i64 j ∧ List.length ls = j ∧ kks ls = (kks ks).take j ∧ KRow w2.heap.size wr kv ls ∧ PRow w1.heap.size wr (.slice ao pn cp) qs0 ∧ wr.heap[G]? = some (.cells #[.int .i64 lv, .slice ao pn cp, kv] 25 (0, 0)) ∧ Keeps (fun q => q = G) w2 wr) (fun i _ => kn - (intOf i).toNat)
  case atStart => exact ⟨0, .slice none 0 0, [], by omega, rfl, rfl, by simp [kks], KRow.nil _ _, HPR2.out, HGG.out, Keeps.refl _ _⟩
  case round =>
    obtain ⟨j, kv, qs, hj, rfl, hql, hkk, hkr, hpr, hgw, hk⟩ := hrel
    have HQL := Lib.hid hql
    have HKK := Lib.hid hkk
    have HQK := Lib.hid hkr
    have HPW := Lib.hid hpr
    have HGW := Lib.hid hgw
    have HK2 := Lib.hid hk
    have HBW := Lib.hid (hk.obj HB2.out (by omega))
    have HRW := Lib.hid (hk.obj HR2.out (by omega))
    have HSW : Hid (Same w wr) := Lib.hid (HS2.out.trans hk (fun q hq e => by omega))
    have HNB : Hid (∀ e : kv.ownBlock = some w.heap.size, False) := Lib.hid (fun e => by have := (hkr.own.lt _ e).1; omega)
    have HNG : Hid (∀ e : kv.ownBlock = some G, False) := Lib.hid (fun e => by have := (hkr.own.lt _ e).1; omega)
    have HKB : Hid (∀ q, kv.ownBlock = some q → q < wr.heap.size) := Lib.hid (fun q e => (hkr.own.lt _ e).2)
    have HBL : Hid (w2.heap.size ≤ wr.heap.size) := Lib.hid hk.size
    obtain ⟨b0, b1, b2⟩ := cell_of_three HBW.out
    clear hql hkk hkr hpr hgw hk HB2 HR2 HPR2 HGG
    by_cases hlt : j < kn
    · have hjl : j < ks.length := by have := HKL.out; omega
      obtain ⟨gk, off, fO, fC, rfl, ef, hka⟩ := (HH.out.kids.same HSW.out).at hjl
      have hgk : gk < w.heap.size := by
        obtain ⟨gk', off', _, _, e1, _, h1⟩ := HH.out.kids.at hjl
        simp only [Option.some.injEq, Addr.mk.injEq] at e1
        obtain ⟨rfl, _, _⟩ := e1
        exact World.block_lt_of_cell? _ _ h1.cell0
      have hfsz := HKS.out ks[j] (List.getElem_mem hjl)
      have HTK : Hid ((kks ks).take (j + 1) = (kks ks).take j ++ [(ks[j].fs, ks[j].hs)]) := Lib.hid (by
        rw [List.take_succ_eq_append_getElem (by rw [kks_length]; exact hjl)]
        simp [kks])
      have hfw : ∀ a n c, Value.slice fO ks[j].fs.length fC = .slice (some a) n c → ks[j].fs ≠ [] → a.block < w.heap.size := fun a n c e h0 => by
        obtain ⟨gk', off', fO', fC', e1, e2, h1⟩ := HH.out.kids.at hjl
        rw [ef] at e2
        have hb := h1.bf
        rw [ef, e] at hb
        exact bytes_lt hb h0
      have hC0 : ∀ w', Keeps (fun k => kv.ownBlock = some k) wr w' → w'.cell? ⟨gk, off + j * 33, none⟩ = some (.slice fO ks[j].fs.length fC) := fun w' k => by
        rw [← ef]
        exact rangeAt_keep hka.ra k (fun _ e => by have := (HQK.out.own.lt _ e).1; omega) 0 _ rfl
      have hBF : ∀ w', Keeps (fun k => kv.ownBlock = some k) wr w' → Bytes w' (.slice fO ks[j].fs.length fC) ks[j].fs := fun w' k => by
        have hb := hka.bf
        rw [ef] at hb
        by_cases h0 : ks[j].fs = []
        · rw [h0] at hb ⊢; exact Bytes.nil _ _ _
        · exact hb.keeps k (fun a n c e e2 => by have := hfw a n c e h0; have := (HQK.out.own.lt _ e2).1; omega)
      have hHR : ∀ w', Keeps (fun k => kv.ownBlock = some k) wr w' → w'.rangeAt gk (off + j * 33 + 1) (u8s ks[j].hs) := fun w' k q v hv => by
        have := rangeAt_keep hka.ra k (fun _ e => by have := (HQK.out.own.lt _ e).1; omega) (q + 1) v (by simpa [KidX.cells] using hv)
        rwa [show off + j * 33 + (q + 1) = off + j * 33 + 1 + q from by omega] at this
      have HC0 := Lib.hid hC0
      have HBF := Lib.hid hBF
      have HHR := Lib.hid hHR
      have HHL := Lib.hid hka.hl
      have HSS2 := Lib.hid (HSS.out ks[j].hs hka.hl)
      clear hC0 hBF hHR hfw ef hka
      generalize ks[j].fs = fs at *
      generalize ks[j].hs = hs at *
      clear hjl
      have hjn : (j : Int) < (kn : Int) := by omega
      go_wp2
      clear b0 b1 b2
      refine wp_region_hand [[], [0], [], [], [3], [], [4, 5], [6], [7], [2, 8], [], [10], [], [11, 12], [13], [14], [9, 15], [16], [1, 17, 9], [0, 1, 2, 3, 4, 5, 6, 7, 8, 9, 10, 11, 12, 13, 14, 15, 16, 17, 18], [19, 18, 18, 0, 1, 2, 3, 4, 5, 6, 7, 8, 9, 10, 11, 12, 13, 14, 15, 16, 17, 18]]
        [some 18, some 19, some 20, some 21, some 22, some 23, some 24, some 25, some 26, some 27, some 28, some 29, some 30, some 31, some 32, some 33, some 34, some 35, some 36, some 37, none]
        [.is (.pointer (some ⟨G, 2, none⟩)), .is (kv), .litN 5 #[] 0, .is (.pointer (some ⟨w.heap.size, 2, none⟩)), .is (.slice (some ⟨gk, off, none⟩) kn kc), .is (.int .i64 (j : Int)), .is (.pointer (some ⟨gk, off + j * 33, none⟩)), .is (.pointer (some ⟨gk, off + j * 33, none⟩)), .is (.slice fO fs.length fC), .ex (TextV fs) (TextV.keep _), .is (.pointer (some ⟨w.heap.size, 2, none⟩)), .is (.slice (some ⟨gk, off, none⟩) kn kc), .is (.int .i64 (j : Int)), .is (.pointer (some ⟨gk, off + j * 33, none⟩)), .is (.pointer (some ⟨gk, off + j * 33 + 1, none⟩)), .is (.agg (u8s hs).toArray), .ex (KidV fs hs) (KidV.keep _ _), .ex (KidL fs hs) (KidL.keep _ _), .any, .is (.pointer (some ⟨G, 2, none⟩)), .any]
        (fun k => kv.ownBlock = some k) [18] (CopyE w2.heap.size kv qs fs hs) 5 _ _ 39 20 21 (by kernel_rfl) (by rfl) (by rfl) (by omega) (by kernel_rfl) (by kernel_rfl) (by decide) (by decide) (fun k e => HKB.out k e) HQK.out CopyE.same ?_ ?_
      · refine ⟨?_, ?_, ?_, ?_, ?_, ?_, ?_, ?_, ?_, ?_, ?_, ?_, ?_, ?_, ?_, ?_, ?_, ?_, ?_, ?_, trivial⟩
        · intro a w' K hs' hdep hfr hK
          have f3 := hfr 3 (by decide)
          exact plan_do (by rfl) (plan_yield (i := 0) (V := fun _ _ v => v = (.pointer (some ⟨G, 2, none⟩) : Value)) (.pointer (some ⟨G, 2, none⟩)) (by go_simp) rfl hK)
        · intro a w' K hs' hdep hfr hK
          have e18 : a.tmps[18]?.getD undef = (.pointer (some ⟨G, 2, none⟩)) := hdep 0 (by decide) 18 rfl
          obtain ⟨cl0, cl1, cl2⟩ := cell_of_three (hs'.obj HGW.out HNG.out)
          exact plan_do (by rfl) (plan_yield (i := 1) (V := fun _ _ v => v = (kv : Value)) (kv) (by go_simp) rfl hK)
        · intro a w' K hs' hdep hfr hK
          exact plan_do (by rfl) (plan_go (.slice (some ⟨w'.heap.size, 0, none⟩) 0 0) (w'.alloc (.cells #[] 5)) (by go_simp) (hK _ _ ((Keeps.refl _ _).alloc _) ⟨_, rfl, hs'.size, heap_alloc_new w' _⟩))
        · intro a w' K hs' hdep hfr hK
          have f1 := hfr 1 (by decide)
          exact plan_do (by rfl) (plan_yield (i := 3) (V := fun _ _ v => v = (.pointer (some ⟨w.heap.size, 2, none⟩) : Value)) (.pointer (some ⟨w.heap.size, 2, none⟩)) (by go_simp) rfl hK)
        · intro a w' K hs' hdep hfr hK
          have e21 : a.tmps[21]?.getD undef = (.pointer (some ⟨w.heap.size, 2, none⟩)) := hdep 3 (by decide) 21 rfl
          obtain ⟨cl0, cl1, cl2⟩ := cell_of_three (hs'.obj HBW.out HNB.out)
          exact plan_do (by rfl) (plan_yield (i := 4) (V := fun _ _ v => v = (.slice (some ⟨gk, off, none⟩) kn kc : Value)) (.slice (some ⟨gk, off, none⟩) kn kc) (by go_simp) rfl hK)
        · intro a w' K hs' hdep hfr hK
          have f4 := hfr 4 (by decide)
          exact plan_do (by rfl) (plan_yield (i := 5) (V := fun _ _ v => v = (.int .i64 (j : Int) : Value)) (.int .i64 (j : Int)) (by go_simp) rfl hK)
        · intro a w' K hs' hdep hfr hK
          have e22 : a.tmps[22]?.getD undef = (.slice (some ⟨gk, off, none⟩) kn kc) := hdep 4 (by decide) 22 rfl
          have e23 : a.tmps[23]?.getD undef = (.int .i64 (j : Int)) := hdep 5 (by decide) 23 rfl
          have hin : (j : Int) < (kn : Int) := by omega
          exact plan_do (by rfl) (plan_yield (i := 6) (V := fun _ _ v => v = (.pointer (some ⟨gk, off + j * 33, none⟩) : Value)) (.pointer (some ⟨gk, off + j * 33, none⟩)) (by go_simp) rfl hK)
        · intro a w' K hs' hdep hfr hK
          have e24 : a.tmps[24]?.getD undef = (.pointer (some ⟨gk, off + j * 33, none⟩)) := hdep 6 (by decide) 24 rfl
          exact plan_do (by rfl) (plan_yield (i := 7) (V := fun _ _ v => v = (.pointer (some ⟨gk, off + j * 33, none⟩) : Value)) (.pointer (some ⟨gk, off + j * 33, none⟩)) (by go_simp) rfl hK)
        · intro a w' K hs' hdep hfr hK
          have e25 : a.tmps[25]?.getD undef = (.pointer (some ⟨gk, off + j * 33, none⟩)) := hdep 7 (by decide) 25 rfl
          have cl : w'.cell? ⟨gk, off + j * 33, none⟩ = some (.slice fO fs.length fC) := HC0.out w' hs'
          exact plan_do (by rfl) (plan_yield (i := 8) (V := fun _ _ v => v = (.slice fO fs.length fC : Value)) (.slice fO fs.length fC) (by go_simp) rfl hK)
        · intro a w' K hs' hdep hfr hK
          have e26 : a.tmps[26]?.getD undef = (.slice fO fs.length fC) := hdep 8 (by decide) 26 rfl
          obtain ⟨GL, e20, hGL, hlit⟩ : ∃ G, a.tmps[20]?.getD undef = .slice (some ⟨G, 0, none⟩) 0 0 ∧ wr.heap.size ≤ G ∧ w'.heap[G]? = some (.cells #[] 5 (0, 0)) := hdep 2 (by decide) 20 rfl
          refine step_append_empty (by rfl) (.tmp 20) (.tmp 26) 29 5 i0 (by rfl) Try.underlying29 hi0 hz0 hz1 hz2 ⟨GL, 0, none⟩ fs _ ((eval_tmp _ _).trans e20) (eval_tmp _ _) (by rw [e26]; exact HBF.out w' hs') (by omega) ?_
          intro b c w'' hk hb hf
          exact hK _ _ hk ⟨b, c, rfl, hb, fun h0 => ⟨(hf h0).1, Nat.le_trans hs'.size (hf h0).2⟩⟩
        · intro a w' K hs' hdep hfr hK
          have f1 := hfr 1 (by decide)
          exact plan_do (by rfl) (plan_yield (i := 10) (V := fun _ _ v => v = (.pointer (some ⟨w.heap.size, 2, none⟩) : Value)) (.pointer (some ⟨w.heap.size, 2, none⟩)) (by go_simp) rfl hK)
        · intro a w' K hs' hdep hfr hK
          have e28 : a.tmps[28]?.getD undef = (.pointer (some ⟨w.heap.size, 2, none⟩)) := hdep 10 (by decide) 28 rfl
          obtain ⟨cl0, cl1, cl2⟩ := cell_of_three (hs'.obj HBW.out HNB.out)
          exact plan_do (by rfl) (plan_yield (i := 11) (V := fun _ _ v => v = (.slice (some ⟨gk, off, none⟩) kn kc : Value)) (.slice (some ⟨gk, off, none⟩) kn kc) (by go_simp) rfl hK)
        · intro a w' K hs' hdep hfr hK
          have f4 := hfr 4 (by decide)
          exact plan_do (by rfl) (plan_yield (i := 12) (V := fun _ _ v => v = (.int .i64 (j : Int) : Value)) (.int .i64 (j : Int)) (by go_simp) rfl hK)
        · intro a w' K hs' hdep hfr hK
          have e29 : a.tmps[29]?.getD undef = (.slice (some ⟨gk, off, none⟩) kn kc) := hdep 11 (by decide) 29 rfl
          have e30 : a.tmps[30]?.getD undef = (.int .i64 (j : Int)) := hdep 12 (by decide) 30 rfl
          have hin : (j : Int) < (kn : Int) := by omega
          exact plan_do (by rfl) (plan_yield (i := 13) (V := fun _ _ v => v = (.pointer (some ⟨gk, off + j * 33, none⟩) : Value)) (.pointer (some ⟨gk, off + j * 33, none⟩)) (by go_simp) rfl hK)
        · intro a w' K hs' hdep hfr hK
          have e31 : a.tmps[31]?.getD undef = (.pointer (some ⟨gk, off + j * 33, none⟩)) := hdep 13 (by decide) 31 rfl
          exact plan_do (by rfl) (plan_yield (i := 14) (V := fun _ _ v => v = (.pointer (some ⟨gk, off + j * 33 + 1, none⟩) : Value)) (.pointer (some ⟨gk, off + j * 33 + 1, none⟩)) (by go_simp) rfl hK)
        · intro a w' K hs' hdep hfr hK
          have e32 : a.tmps[32]?.getD undef = (.pointer (some ⟨gk, off + j * 33 + 1, none⟩)) := hdep 14 (by decide) 32 rfl
          exact plan_do (by rfl) (wp_load_mid 44 (.tmp 32) rfl gk (off + j * 33 + 1) ((eval_tmp _ _).trans e32) (u8s hs) _ (HHR.out w' hs') Try.underlying44 rfl HSS2.out (hK _ _ (Keeps.refl _ _) rfl))
        · intro a w' K hs' hdep hfr hK
          have e33 : a.tmps[33]?.getD undef = (.agg (u8s hs).toArray) := hdep 15 (by decide) 33 rfl
          obtain ⟨ka, kcc, e27, hkb, hkf⟩ : TextV fs wr.heap.size w' (a.tmps[27]?.getD undef) := hdep 9 (by decide) 27 rfl
          refine plan_do (by rfl) (plan_build 46 #[(0, .tmp 27), (1, .tmp 33)] rfl (Value.slice (some ka) fs.length kcc :: u8s hs).toArray ?_ (hK _ _ (Keeps.refl _ _) ⟨ka, kcc, rfl, hkb, hkf⟩))
          simp only [List.map_toArray, List.map_cons, List.map_nil, eval_tmp, e27, e33]
          exact built_kid _ _ _ _ HHL.out
        · intro a w' K hs' hdep hfr hK
          obtain ⟨ka, kcc, e34, hkb, hkf⟩ : KidV fs hs wr.heap.size w' (a.tmps[34]?.getD undef) := hdep 16 (by decide) 34 rfl
          have hcl : (Value.slice (some ka) fs.length kcc :: u8s hs).toArray.size = 33 := by simp [u8s_length, HHL.out]
          exact plan_do (by rfl) (wp_buildOne 23 46 (.tmp 34) rfl (Value.slice (some ka) fs.length kcc :: u8s hs).toArray ie _ ((eval_tmp _ _).trans e34) Try.underlying23 hie HZ.out (by rw [hj1, hcl]) (by rw [hcl]; omega) (by rw [hcl]; omega) (hK _ _ ((Keeps.refl _ _).alloc _) ⟨w'.heap.size, ka, kcc, rfl, hs'.size, heap_alloc_new w' _, hkb.same ((Keeps.refl _ _).alloc _), hkf⟩))
        · intro a w' K hs' hdep hfr ev hE hev hK
          have e19 : a.tmps[19]?.getD undef = (kv) := hdep 1 (by decide) 19 rfl
          obtain ⟨GL, ka, kcc, e35, hGL, hlit, hkb, hkf⟩ : KidL fs hs wr.heap.size w' (a.tmps[35]?.getD undef) := hdep 17 (by decide) 35 rfl
          obtain ⟨g, cp, w'', hrun, hk9, hkr⟩ := kid_append (p := ⟨.slice (some ka) fs.length kcc, fs, hs⟩) hE hkb (far_of hkf HKB.out HBL.out) HHL.out rfl (by have := HQL.out; omega) hlit (Nat.le_trans HBL.out hs'.size)
          refine step_append_run (by rfl) (.tmp 19) (.tmp 35) 23 (by rfl) kv (.slice (some ⟨GL, 0, none⟩) 1 1) _ w'' ((eval_tmp _ _).trans e19) ((eval_tmp _ _).trans e35) hrun ?_
          exact hK _ _ hk9 ⟨g, cp, ka, kcc, rfl, hkr⟩ trivial
        · intro a w' K hs' hdep hfr hK
          have f3 := hfr 3 (by decide)
          exact plan_do (by rfl) (plan_yield (i := 19) (V := fun _ _ v => v = (.pointer (some ⟨G, 2, none⟩) : Value)) (.pointer (some ⟨G, 2, none⟩)) (by go_simp) rfl hK)
      intro a wz hkz hdef hsz hv hfr ev hEz hev
      have e36 := hev 0 36 rfl rfl
      have e37 : a.tmps[37]?.getD undef = (.pointer (some ⟨G, 2, none⟩)) := hv 19 37 (by omega) rfl
      have he := act_eq a _ [some 18, some 19, some 20, some 21, some 22, some 23, some 24, some 25, some 26, some 27, some 28, some 29, some 30, some 31, some 32, some 33, some 34, some 35, some 36, some 37] 39 rfl hsz hdef hfr (fun d => a.tmps[d]?.getD undef) (fun _ _ => rfl)
      obtain ⟨v18, h18⟩ : ∃ v, a.tmps[18]?.getD undef = v := ⟨_, rfl⟩
      obtain ⟨v19, h19⟩ : ∃ v, a.tmps[19]?.getD undef = v := ⟨_, rfl⟩
      obtain ⟨v20, h20⟩ : ∃ v, a.tmps[20]?.getD undef = v := ⟨_, rfl⟩
      obtain ⟨v21, h21⟩ : ∃ v, a.tmps[21]?.getD undef = v := ⟨_, rfl⟩
      obtain ⟨v22, h22⟩ : ∃ v, a.tmps[22]?.getD undef = v := ⟨_, rfl⟩
      obtain ⟨v23, h23⟩ : ∃ v, a.tmps[23]?.getD undef = v := ⟨_, rfl⟩
      obtain ⟨v24, h24⟩ : ∃ v, a.tmps[24]?.getD undef = v := ⟨_, rfl⟩
      obtain ⟨v25, h25⟩ : ∃ v, a.tmps[25]?.getD undef = v := ⟨_, rfl⟩
      obtain ⟨v26, h26⟩ : ∃ v, a.tmps[26]?.getD undef = v := ⟨_, rfl⟩
      obtain ⟨v27, h27⟩ : ∃ v, a.tmps[27]?.getD undef = v := ⟨_, rfl⟩
      obtain ⟨v28, h28⟩ : ∃ v, a.tmps[28]?.getD undef = v := ⟨_, rfl⟩
      obtain ⟨v29, h29⟩ : ∃ v, a.tmps[29]?.getD undef = v := ⟨_, rfl⟩
      obtain ⟨v30, h30⟩ : ∃ v, a.tmps[30]?.getD undef = v := ⟨_, rfl⟩
      obtain ⟨v31, h31⟩ : ∃ v, a.tmps[31]?.getD undef = v := ⟨_, rfl⟩
      obtain ⟨v32, h32⟩ : ∃ v, a.tmps[32]?.getD undef = v := ⟨_, rfl⟩
      obtain ⟨v33, h33⟩ : ∃ v, a.tmps[33]?.getD undef = v := ⟨_, rfl⟩
      obtain ⟨v34, h34⟩ : ∃ v, a.tmps[34]?.getD undef = v := ⟨_, rfl⟩
      obtain ⟨v35, h35⟩ : ∃ v, a.tmps[35]?.getD undef = v := ⟨_, rfl⟩
      simp only [putAll, e36, e37, h18, h19, h20, h21, h22, h23, h24, h25, h26, h27, h28, h29, h30, h31, h32, h33, h34, h35, List.setIfInBounds_toArray, List.set_cons_zero, List.set_cons_succ] at he
      clear e36 e37 h18 h19 h20 h21 h22 h23 h24 h25 h26 h27 h28 h29 h30 h31 h32 h33 h34 h35 hdef hsz hv hfr hev
      subst he
      obtain ⟨gg, cc, ka, kcc, rfl, hkr⟩ := hEz
      have HGZ := Lib.hid (hkz.obj HGW.out HNG.out)
      obtain ⟨g0, g1, g2⟩ := cell_of_three HGZ.out
      have g3 : wz.frozen? ⟨G, 2, none⟩ = false := Whole.free (cs := [.int .i64 lv, .slice ao pn cp, kv]) HGZ.out 2
      have hsG : Keeps (fun q => q = G) wz (wz.setCell ⟨G, 2, none⟩ (.slice (some ⟨gg, 0, none⟩) (qs.length + 1) cc)) := (Keeps.refl _ _).setCell _ _ (.inr rfl)
      have HKR9 := Lib.hid (hkr.keep hsG (fun q e => by omega))
      have HPR9 := Lib.hid ((HPW.out.keepS hkz (HPB.out.imp (fun q h e => by have := (HQK.out.own.lt _ e).1; omega))).keepS hsG (HPB.out.imp (fun q h e => h.1 e)))
      have HG9 : Hid ((wz.setCell ⟨G, 2, none⟩ (.slice (some ⟨gg, 0, none⟩) (qs.length + 1) cc)).heap[G]? = some (.cells #[.int .i64 lv, .slice ao pn cp, .slice (some ⟨gg, 0, none⟩) (qs.length + 1) cc] 25 (0, 0))) := Lib.hid (by
        have := Whole.set (cs := [.int .i64 lv, .slice ao pn cp, kv]) HGZ.out 2 (.slice (some ⟨gg, 0, none⟩) (qs.length + 1) cc)
        exact this)
      have HK9 : Hid (Keeps (fun q => q = G) w2 (wz.setCell ⟨G, 2, none⟩ (.slice (some ⟨gg, 0, none⟩) (qs.length + 1) cc))) := Lib.hid ((HK2.out.trans hkz (fun q hq e => by have := (HQK.out.own.lt _ e).1; omega)).trans hsG (fun _ _ e => e))
      clear hkz hkr hsG
      go_wp2
      go_roundw
      case rel => exact ⟨j + 1, .slice (some ⟨gg, 0, none⟩) (qs.length + 1) cc, qs ++ [⟨.slice (some ka) fs.length kcc, fs, hs⟩], by omega, by go_num, by rw [List.length_append, HQL.out]; rfl, by rw [HTK.out, ← HKK.out]; simp [kks], HKR9.out, HPR9.out, HG9.out, HK9.out⟩
      case measure => simp [intOf]; omega
    · obtain rfl : j = kn := by omega
      have hkv := HQK.out.kids
      rw [HQL.out] at hkv
      obtain ⟨ko', kc', rfl, -, -⟩ := hkv
      obtain ⟨g0, g1, g2⟩ := cell_of_three HGW.out
      have hsR : Keeps (fun q => q = w.heap.size + 1) wr (wr.setRow (w.heap.size + 1) ([.int .i64 lv, .slice ao pn cp, .slice ko' j kc'] : List Value).toArray) := (Keeps.refl _ _).setRow _ _ (.inr rfl)
      have HFIN : Hid (Whole (wr.setRow (w.heap.size + 1) ([.int .i64 lv, .slice ao pn cp, .slice ko' j kc'] : List Value).toArray) (w.heap.size + 1) 25 [.int .i64 lv, .slice ao pn cp, .slice ko' j kc']) := Lib.hid (Whole.row (cs := [.int .i64 0, .slice none 0 0, .slice none 0 0]) HRW.out)
      have HALL : Hid ((([.int .i64 lv, .slice ao pn cp, .slice ko' j kc'] : List Value).toArray).all (·.oneCell') = true) := Lib.hid (by simp [Value.oneCell'])
      have HP9 := Lib.hid (HPW.out.keep hsR (fun q e => by have := HSZ1.out; omega))
      have HK9 := Lib.hid (HQK.out.keep hsR (fun q e => by omega))
      have HS9 : Hid (Same w (wr.setRow (w.heap.size + 1) ([.int .i64 lv, .slice ao pn cp, .slice ko' j kc'] : List Value).toArray)) := Lib.hid (HSW.out.setRow _ _ (.inl (by omega)))
      clear hsR
      go_wp2_with (first
        | (refine wpList_store_row (by rfl) 25 _ _ (by rfl) (w.heap.size + 1) ([.int .i64 lv, .slice ao pn cp, .slice ko' j kc'] : List Value).toArray (by rfl) (by rfl) 25 _ HRW.out HIO.out rfl HALL.out ?_))
      obtain ⟨ao1, cp1, e1, hpairs, hpc⟩ := HP9.out.pairs
      obtain ⟨ko1, kc1, e2, hkids, hkc⟩ := HK9.out.kids
      simp only [Value.slice.injEq] at e1 e2
      obtain ⟨rfl, _, rfl⟩ := e1
      obtain ⟨rfl, _, rfl⟩ := e2
      refine bodyPost_ret (v := .agg ([.int .i64 lv, .slice ao pn cp, .slice ko' j kc'] : List Value).toArray) (results_cell_row (p := 2) (ty := 25) rfl _ _ (w.heap.size + 1) 25 _ (0, 0) _ (by rfl) HFIN.out Try.underlying25 rfl HIO.out) rfl
        ⟨HS9.out, ao, cp, ko', kc', qs0, qs, rfl, hql0, HQL.out, ⟨hpairs, hkids, hpc, hkc⟩, hqk0, by rw [HKK.out, List.take_of_length_le (by rw [kks_length, HKL.out]; exact Nat.le_refl _)]⟩
end Go.Proofs.Ytdeajjppmgfemaa
