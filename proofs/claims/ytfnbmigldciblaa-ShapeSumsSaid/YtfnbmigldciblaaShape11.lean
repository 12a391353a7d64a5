/- The walk of ShapeSums. -/
import Derived.Test.YtfnbmigldciblaaShape9
import Derived.Deep.AppendLies
namespace Go.Proofs.Ytfnbmigldciblaa
open Go.RowKit
set_option linter.unusedVariables false

/-- append of one value of one cell, which lies in a row of its own, onto a row of the call's own, nil or not. -/
theorem wpList_append_one {P : Program} {ops : Array Oper} {rest : List Oper} {o : Oper} {a : Act} {w : World} {Q : Exit → Act → World → Prop} (hgd : o.guard = none) (s x : Operand) (t e : TypeId) (i : TypeInfo) {z0 : Value} {by' : Nat}
    (ho : o.op = .call { callee := .builtin .append, args := #[s, x], argTypes := #[t, t] }) (ht : P.underlying t = some (.slice e)) (hi : P.info? e = some i) (hz : i.zero = some z0) (hsz : i.size = 1) (hb : i.bytes = by') (hz1 : z0.cells.size = 1) (hby : by' ≤ 64)
    (base B c : Nat) (v : Value) (xs : List Value) (u : Value) (hu : u.oneCell' = true) (hs : a.eval s = v) (hx : a.eval x = .slice (some ⟨B, 0, none⟩) 1 c) (hown : w.ownsRow base e 1 v xs.length xs) {t' : TypeId} {fr : Nat × Nat} (hB : w.heap[B]? = some (.cells #[u] t' fr)) (hl : xs.length + 1 ≤ 1099511627776) (hbase : base ≤ w.heap.size)
    (h : ∀ g' cap' w', w'.ownsRow base e 1 (.slice (some ⟨g', 0, none⟩) (xs.length + 1) cap') (xs ++ [u]).length (xs ++ [u]) → w.grownBy w' v.ownBlock → (v.ownBlock = some g' ∨ g' = w.heap.size) → wpList P ops Q rest (a.put o.dst (.slice (some ⟨g', 0, none⟩) (xs.length + 1) cap')) w') :
    wpList P ops Q (o :: rest) a w := by
  obtain ⟨g', cap', w', h1, h2, h3, h4, _⟩ := run_append_lies (P := P) w t o.type base e i z0 1 by' ht hi hz hsz hb hz1 (by omega) v xs.length xs hown ⟨B, 0, none⟩ 1 c [u] rfl (World.news_of_block hB) (by simpa using hu) (by omega) (by unfold maxLen; omega)
    (by have : (xs.length + 1) * by' ≤ (xs.length + 1) * 64 := Nat.mul_le_mul_left _ hby
        omega) hbase w.heap.size rfl
  exact wpList_append_run hgd s x t ho _ _ _ w' hs hx h1 (h g' cap' w' (by simpa using h2) h3 h4)

/-- What each group is. -/
theorem groupsTo_each (E : Nat → Nat → Prop) [∀ a b, Decidable (E a b)] (N : Nat) : ∀ k, k ≤ N → (∀ t, (groupsTo E N k).2 < t → t ≤ k → ¬ E (groupsTo E N k).2 t) ∧ ∀ n (h : n < (groupsTo E N k).1.length), ∃ a d : Nat, ((groupsTo E N k).1.take n).sum = (a : Int) ∧ (groupsTo E N k).1[n] = (d : Int) ∧ 1 ≤ d ∧ a + d ≤ (groupsTo E N k).2 ∧ ∀ t, a < t → t < a + d → ¬ E a t
  | 0, _ => ⟨fun t h1 h2 => by omega, fun n h => by simp [groupsTo] at h⟩
  | k + 1, hk => by
    obtain ⟨ih1, ih2⟩ := groupsTo_each E N k (by omega)
    have hle := groupsTo_le E N k
    have hb := (groupsTo_bound E N k).1
    by_cases he : k + 1 = N ∨ E (groupsTo E N k).2 (k + 1)
    · have hg := groupsTo_end E N k he
      refine ⟨fun t h1 h2 => by rw [hg] at h1; simp only at h1; omega, fun n hn => ?_⟩
      have hn' : n < (groupsTo E N k).1.length + 1 := by
        have := hn; rw [hg] at this; simpa using this
      by_cases hl : n < (groupsTo E N k).1.length
      · obtain ⟨a, d, h1, h2, h3, h4, h5⟩ := ih2 n hl
        refine ⟨a, d, ?_, ?_, h3, by rw [hg]; simp only; omega, h5⟩
        · rw [hg]; simp only; rw [List.take_append_of_le_length (by omega)]; exact h1
        · have : (groupsTo E N (k + 1)).1[n]? = (groupsTo E N k).1[n]? := by rw [hg]; simp only; rw [List.getElem?_append_left hl]
          rw [List.getElem?_eq_getElem hn, List.getElem?_eq_getElem hl] at this
          rw [Option.some.inj this]; exact h2
      · obtain rfl : n = (groupsTo E N k).1.length := by omega
        refine ⟨(groupsTo E N k).2, k + 1 - (groupsTo E N k).2, ?_, ?_, by omega, by rw [hg]; simp only; omega, fun t h1 h2 => ih1 t h1 (by omega)⟩
        · rw [hg]; simp only; rw [List.take_append_of_le_length (Nat.le_refl _), List.take_length]; exact hb
        · have : (groupsTo E N (k + 1)).1[(groupsTo E N k).1.length]? = some (((k + 1 : Nat) : Int) - ((groupsTo E N k).2 : Nat)) := by rw [hg]; simp
          rw [List.getElem?_eq_getElem hn] at this
          rw [Option.some.inj this]; omega
    · have hg := groupsTo_on E N k he
      rw [hg]
      refine ⟨fun t h1 h2 => ?_, ih2⟩
      by_cases ht : t ≤ k
      · exact ih1 t h1 ht
      · obtain rfl : t = k + 1 := by omega
        exact fun h => he (.inr h)
theorem groupsTo_all (E : Nat → Nat → Prop) [∀ a b, Decidable (E a b)] (N : Nat) : (groupsTo E N N).2 = N := by
  rcases N with _ | N
  · rfl
  · rw [groupsTo_end _ _ _ (.inl rfl)]
theorem leaves_each (ps : List PairX) (j : Nat) (h : j < (leavesOf ps).length) : ∃ a d : Nat, ((leavesOf ps).take j).sum = (a : Int) ∧ (leavesOf ps)[j] = (d : Int) ∧ a + d ≤ ps.length ∧ (d = 0 → ps.length = 0) ∧ (d ≤ 1 ∨ psum ((ps.drop a).take d) ≤ 200) := by
  by_cases h0 : ps.length = 0
  · have hl : leavesOf ps = [0] := if_pos h0
    have hj : j = 0 := by rw [hl] at h; simpa using h
    subst hj
    refine ⟨0, 0, by simp, by simp [hl], by omega, fun _ => h0, .inl (by omega)⟩
  · have hl : leavesOf ps = (groupsTo (LeafEnds ps) ps.length ps.length).1 := if_neg h0
    obtain ⟨a, d, h1, h2, h3, h4, h5⟩ := (groupsTo_each (LeafEnds ps) ps.length ps.length (Nat.le_refl _)).2 j (by rw [← hl]; exact h)
    rw [groupsTo_all] at h4
    refine ⟨a, d, by rw [hl]; exact h1, ?_, h4, fun e => by omega, ?_⟩
    · have : (leavesOf ps)[j]? = (groupsTo (LeafEnds ps) ps.length ps.length).1[j]? := by rw [hl]
      rw [List.getElem?_eq_getElem h, List.getElem?_eq_getElem (by rw [← hl]; exact h)] at this
      rw [Option.some.inj this]; exact h2
    · by_cases hd : d ≤ 1
      · exact .inl hd
      · refine .inr ?_
        have := h5 (a + d - 1) (by omega) (by omega)
        have h6 : ¬ 200 < psum ((ps.drop a).take (a + d - 1 + 1 - a)) := fun h => this (.inr h)
        rw [show a + d - 1 + 1 - a = d from by omega] at h6
        omega
theorem leaves_sum (ps : List PairX) : (leavesOf ps).sum = (ps.length : Int) := by
  by_cases h0 : ps.length = 0
  · have hl : leavesOf ps = [0] := if_pos h0
    rw [hl, h0]; rfl
  · have hl : leavesOf ps = (groupsTo (LeafEnds ps) ps.length ps.length).1 := if_neg h0
    rw [hl, (groupsTo_bound _ _ _).1, groupsTo_all]
theorem inner_each (rs : List (Value × List UInt8)) (level : Int) (j : Nat) (h : j < (innerOf rs level).length) : ∃ a d : Nat, ((innerOf rs level).take j).sum = (a : Int) ∧ (innerOf rs level)[j] = (d : Int) ∧ 1 ≤ d ∧ d ≤ 4 ∧ a + d ≤ rs.length := by
  obtain ⟨a, d, h1, h2, h3, h4, h5⟩ := (groupsTo_each (InnerEnds rs level) rs.length rs.length (Nat.le_refl _)).2 j h
  rw [groupsTo_all] at h4
  refine ⟨a, d, h1, h2, h3, ?_, h4⟩
  by_cases hd : d ≤ 4
  · exact hd
  · exact absurd (.inl (by omega)) (h5 (a + 4) (by omega) (by omega))
theorem inner_sum (rs : List (Value × List UInt8)) (level : Int) : (innerOf rs level).sum = (rs.length : Int) := by
  unfold innerOf
  rw [(groupsTo_bound _ _ _).1, groupsTo_all]
theorem sum_snoc (zs : List Int) (j : Nat) (h : j < zs.length) : (zs.take (j + 1)).sum = (zs.take j).sum + zs[j] := by
  rw [List.take_succ_eq_append_getElem h, List.sum_append]
  simp only [List.sum_cons, List.sum_nil, Int.add_zero]

/-- The first keys of the groups up to here. -/
structure Firsts (w wr : World) (o : Value) (rs : List (Value × List UInt8)) : Prop where
  own : wr.ownsRow w.heap.size 22 1 o (rs.map Prod.fst).length (rs.map Prod.fst)
  each : ∀ r ∈ rs, Bytes w r.1 r.2 ∧ r.2.length ≤ 1000000
theorem Firsts.rows {w wr : World} {o : Value} {rs : List (Value × List UInt8)} (h : Firsts w wr o rs) (k : Same w wr) : ∃ fo fc, o = .slice fo rs.length fc ∧ Rows2 wr o rs := by
  have hl : (rs.map Prod.fst).length = rs.length := List.length_map _
  rcases h.own.2 with ⟨rfl, h0⟩ | ⟨g, cap, cur, rfl, _, hg, hn, _⟩
  · have : rs = [] := List.length_eq_zero_iff.1 (by omega)
    exact ⟨none, 0, by rw [this]; rfl, .inr ⟨0, rfl, this⟩⟩
  · refine ⟨_, cap, by rw [hl], .inl ⟨_, cap, by rw [hl], fun j r hr => ⟨?_, ?_⟩⟩⟩
    · exact h.own.cells rfl j _ (by simp [hr])
    · exact (h.each r (List.mem_of_getElem? hr)).1.same k

theorem Try.infoSl : (Try.prog.info? 22).map (fun i => (i.zero, i.size, i.bytes)) = some (some (.slice none 0 0), 1, 24) := by kernel_rfl

set_option maxRecDepth 100000 in
set_option maxHeartbeats 12800000 in
theorem sumsLaw (ao : Option Addr) (cap N : Nat) (level : Int) (ps : List PairX) (w : World) (hr : Pairs w ao ps) (hN : ps.length = N) (hcap : N ≤ cap) (hcm : cap ≤ 9223372036854775807) :
    Calls Try.prog 7 #[.slice ao N cap, .int .i64 level] w fun e w' => e = .returned (.bool true) ∧ Same w w' := by
  have HR := Lib.hid hr
  have HN := Lib.hid hN
  clear hr hN
  obtain ⟨i0, hi0, hz0, hz1, hz2⟩ := info_parts8 Try.infoSl
  go_enter Try.func7, Try.ntmps7
  go_wp2_with fail
  ((with_reducible refine (speaks06 _).mono ?_); rintro e w1 ⟨rfl, hk1⟩)
  have HK1 := Lib.hid hk1
  clear hk1
  go_wp2_with fail
  ((with_reducible refine (great_any ao N cap ps _ (HR.out.same HK1.out) HN.out (by omega)).mono ?_); rintro e w2 ⟨b, rfl, ⟨m, hw2⟩, hgr⟩)
  have HK2 : Hid (Same w w2) := Lib.hid (by rw [hw2]; exact HK1.out.drewN m)
  clear hw2
  cases b with
  | true =>
    clear hgr
    go_wp2
    go_ret
    exact ⟨rfl, HK2.out⟩
  | false =>
    have hgr := hgr rfl
    have hm1 : psum ps ≤ 8000 := by omega
    have hNl : N ≤ 2000 := by have := HN.out; omega
    have HM := Lib.hid hm1
    clear hgr hm1
    go_wp2_with fail
    ((with_reducible refine (show Calls Try.prog 14 #[.slice ao N cap] (w2.alloc (.cells #[] 22)) _ from HN.out ▸ leaves_any ao cap ps (w2.alloc (.cells #[] 22)) (HR.out.same (HK2.out.alloc _)) (by have := HN.out; omega) (by have := HM.out; omega)).mono ?_); rintro e w3 ⟨v, rfl, ho, hk3⟩)
    have HO := Lib.hid ho
    have HF0 : Hid (Firsts w w3 (.slice (some ⟨w2.heap.size, 0, none⟩) 0 0) []) := Lib.hid ⟨by
      have := World.ownsRow_made (base := w.heap.size) (e := 22) (size := 1) w2 #[] 0 HK2.out.size (by unfold maxLen; omega) (by simp)
      exact own_keeps hk3 (by simpa using this) (fun _ _ e => e), fun _ h => by simp at h⟩
    have HK3 : Hid (Same w w3) := Lib.hid ((HK2.out.alloc _).trans hk3 (fun _ _ e => e))
    obtain ⟨L, hL⟩ : ∃ L, (leavesOf ps).length = L := ⟨_, rfl⟩
    have HL := Lib.hid hL
    have hform : ∃ vo vc, v = .slice vo L vc ∧ L ≤ vc := by
      rcases ho.2 with ⟨h1, h2⟩ | ⟨g, cp, cur, h1, _, _, h2, _⟩
      · rw [hL] at h2; subst h2; exact ⟨none, 0, h1, Nat.le_refl _⟩
      · rw [hL] at h1 h2; exact ⟨_, cp, h1, h2⟩
    obtain ⟨vo, vc, rfl, hLc⟩ := hform
    have hLN : L ≤ 2001 := by have := leavesOf_len ps; have := HN.out; omega
    have HI : Hid (Ints w3 (.slice vo L vc) (leavesOf ps)) := Lib.hid (Ints.of_own ho)
    have HVO : Hid (∀ a n c, Value.slice vo L vc = .slice (some a) n c → ¬ a.block = w2.heap.size) := Lib.hid fun a n c e => by
      simp only [Value.slice.injEq] at e
      have h1 := (ho.lt a.block (by rw [e.1]; rfl)).1
      simp at h1; omega
    have HW23 : Hid (w.heap.size ≤ w2.heap.size ∧ w2.heap.size < w3.heap.size) := Lib.hid ⟨HK2.out.size, by have := hk3.size; simp at this; omega⟩
    clear ho hk3 hL HO
    go_wp2
    go_loopw [5, 6, 23] (fun s o i wr => ∃ j : Nat, j ≤ L ∧ i = .int .i64 j ∧ ∃ a : Nat, ((leavesOf ps).take j).sum = (a : Int) ∧ a ≤ N ∧ s = .int .i64 a ∧ ∃ rs, rs.length ≤ j ∧ Firsts w wr o rs ∧ Same w wr ∧ Keeps (fun b => b = w2.heap.size) w3 wr ∧ ∀ b, o.ownBlock = some b → b = w2.heap.size ∨ w3.heap.size ≤ b) (fun _ _ i _ => L - (intOf i).toNat)
    case atStart => exact ⟨0, by omega, rfl, 0, by simp, by omega, rfl, [], by simp, HF0.out, HK3.out, Keeps.refl _ _, fun b e => .inl (by simpa [Value.ownBlock] using e.symm)⟩
    case round =>
      clear HF0
      obtain ⟨j, hj, rfl, a, ha, haN, rfl, rs, hrs, hf, hsw, hs, hrc⟩ := hrel
      obtain ⟨wo, rfl⟩ : ∃ wo : World, wo = wr := ⟨_, rfl⟩
      have HA := Lib.hid ha
      have HF := Lib.hid hf
      have HS := Lib.hid hs
      have HSW := Lib.hid hsw
      have HRC := Lib.hid hrc
      clear ha hf hs hsw hrc
      by_cases hlt : j < L
      · have hjL : j < (leavesOf ps).length := by have := HL.out; omega
        obtain ⟨ad, rfl, hc⟩ := (HI.out.keeps HS.out HVO.out).at hjL
        obtain ⟨a', d, h1, h2, h3, h4, h5⟩ := leaves_each ps j hjL
        obtain rfl : a' = a := by have := HA.out; omega
        have hsn := sum_snoc (leavesOf ps) j hjL
        rw [h2] at hc hsn
        have HA2 : Hid (((leavesOf ps).take (j + 1)).sum = ((a' + d : Nat) : Int)) := Lib.hid (by rw [hsn, h1]; omega)
        have haN2 : a' + d ≤ N := by have := HN.out; omega
        have H4 : Hid (d = 0 → N = 0) := Lib.hid (fun e => by have := h4 e; have := HN.out; omega)
        have H5 := Lib.hid h5
        clear h1 h2 h3 h4 h5 hsn hjL
        have hjn : (j : Int) < (L : Int) := by omega
        obtain ⟨sd, hsd⟩ : ∃ sd, (if cap = a' then ao else Option.map (fun x => x.add (a' * 2)) ao) = sd := ⟨_, rfl⟩
        have HP : Hid (Pairs w sd ((ps.drop a').take d)) := Lib.hid (by
          rw [← hsd]; exact HR.out.cut cap a' d (by have := HN.out; omega) (by have := HN.out; omega))
        have HPL : Hid (((ps.drop a').take d).length = d) := Lib.hid (by rw [List.length_take, List.length_drop]; have := HN.out; omega)
        have HPM : Hid (psum ((ps.drop a').take d) ≤ 8000) := Lib.hid (by
          have h1 := psum_take_le (ps.drop a') d
          have h2 := psum_drop_le ps a'
          have := HM.out; omega)
        go_wp2
        clear hsd
        go_loopw [9, 44] (fun s i wr => ∃ k : Nat, k ≤ d ∧ i = .int .i64 k ∧ (∃ z : Nat, z = psum (((ps.drop a').take d).take k) ∧ s = .int .i64 z) ∧ Same wo wr) (fun _ i _ => d - (intOf i).toNat)
        case atStart => exact ⟨0, by omega, rfl, ⟨0, by simp [psum], rfl⟩, Keeps.refl _ _⟩
        case round =>
          obtain ⟨k, hk, rfl, ⟨z, hz, rfl⟩, hko⟩ := hrel
          have HZ := Lib.hid hz
          have HKO := Lib.hid hko
          have hzl : z ≤ 8000 := by have := psum_take_le ((ps.drop a').take d) k; have := HPM.out; omega
          clear hz hko
          by_cases hkd : k < d
          · have hkl : k < ((ps.drop a').take d).length := by have := HPL.out; omega
            obtain ⟨g, off, ko, kc, vo', vc', rfl, -, -, c0, c1, -, -⟩ := (HP.out.same (HSW.out.trans HKO.out (fun _ _ e => e))).at hkl
            have hsn := psum_snoc _ k hkl
            have hps : psize ((ps.drop a').take d)[k] = 4 + ((ps.drop a').take d)[k].ks.length + ((ps.drop a').take d)[k].vs.length := rfl
            have hsm := psum_take_le ((ps.drop a').take d) (k + 1)
            have hpm := HPM.out
            obtain ⟨kl, hkl2⟩ : ∃ kl, ((ps.drop a').take d)[k].ks.length = kl := ⟨_, rfl⟩
            obtain ⟨vl, hvl2⟩ : ∃ vl, ((ps.drop a').take d)[k].vs.length = vl := ⟨_, rfl⟩
            rw [hkl2] at c0 hps
            rw [hvl2] at c1 hps
            have HZ2 : Hid (psum (((ps.drop a').take d).take (k + 1)) = z + (4 + kl + vl)) := Lib.hid (by rw [hsn, hps, HZ.out])
            have hb : z + (4 + kl + vl) ≤ 8000 := by have := HZ2.out; omega
            have hg : g < wr.heap.size := World.block_lt_of_cell? wr _ c0
            clear hsn hps hsm hpm hkl hkl2 hvl2
            have hkd2 : (k : Int) < (d : Int) := by omega
            go_wp2
            go_roundw
            case rel => exact ⟨k + 1, by omega, by go_num, ⟨z + (4 + kl + vl), HZ2.out.symm, by go_num⟩, HKO.out.alloc _⟩
            case measure => simp [intOf]; omega
          · obtain rfl : k = d := by omega
            have hz2 : z = psum ((ps.drop a').take k) := by rw [HZ.out, List.take_of_length_le (by have := HPL.out; omega)]
            have HZ2 := Lib.hid hz2
            clear hz2
            by_cases hd0 : k = 0
            · subst hd0
              have hN0 := H4.out rfl
              have hz0' : z = 0 := by rw [HZ2.out]; simp [psum]
              have hNn : ¬ (0 : Int) < (N : Int) := by omega
              subst hz0'
              go_wp2
              go_roundw
              case rel => exact ⟨j + 1, by omega, by go_num, a' + 0, HA2.out, by omega, by go_num, rs, by omega, ⟨own_keeps HKO.out HF.out.own (fun _ _ e => e), HF.out.each⟩, HSW.out.trans HKO.out (fun _ _ e => e), HS.out.trans HKO.out (fun _ _ e => e.elim), HRC.out⟩
              case measure => simp [intOf]; omega
            · have hk0 : ((k : Int) == 0) = false := beq_false_of_ne (by omega)
              have haN3 : a' < ps.length := by have := HN.out; omega
              obtain ⟨g, off, ko, kc, vo', vc', rfl, -, -, c0, -, bk, -⟩ := HR.out.at haN3
              have hkl : ps[a'].ks.length ≤ 1000000 := by
                have h1 := psum_snoc ps a' haN3
                have h2 := psum_take_le ps (a' + 1)
                have h3 : psize ps[a'] = 4 + ps[a'].ks.length + ps[a'].vs.length := rfl
                have := HM.out
                omega
              have BK := Lib.hid bk
              have c0' : wr.cell? ⟨g, off + a' * 2, none⟩ = some (.slice ko ps[a'].ks.length kc) :=
                (World.cell?_of_block (w := w) (a := ⟨g, off + a' * 2, none⟩) ((HSW.out.trans HKO.out (fun _ _ e => e)).block g (World.block_lt_of_cell? w _ c0) (fun e => e))).trans c0
              generalize ps[a'].ks = ks at *
              clear bk c0
              have HRS : Hid (rs.length ≤ j) := Lib.hid hrs
              have HOW : Hid (wr.ownsRow w.heap.size 22 1 u6 (rs.map Prod.fst).length (rs.map Prod.fst)) := Lib.hid (own_keeps HKO.out HF.out.own (fun _ _ e => e))
              have HBASE : Hid (w.heap.size ≤ wr.heap.size) := Lib.hid (HSW.out.trans HKO.out (fun _ _ e => e)).size
              have hkp : (0 : Int) < (k : Int) := by omega
              have haN4 : (a' : Int) < (N : Int) := by have := HN.out; omega
              have TAIL : Hid (∀ gi ci (w8 : World), w8.ownsRow w.heap.size 22 1 (.slice (some ⟨gi, 0, none⟩) (rs.length + 1) ci) (rs.length + 1) (rs.map Prod.fst ++ [Value.slice ko ks.length kc]) → (wr.alloc (.cells #[.slice ko ks.length kc] 22)).grownBy w8 u6.ownBlock → (u6.ownBlock = some gi ∨ gi = wr.heap.size + 1) →
                  ∃ rs', rs'.length ≤ j + 1 ∧ Firsts w w8 (.slice (some ⟨gi, 0, none⟩) (rs.length + 1) ci) rs' ∧ Same w w8 ∧ Keeps (fun b => b = w2.heap.size) w3 w8 ∧ ∀ b, (Value.slice (some ⟨gi, 0, none⟩) (rs.length + 1) ci).ownBlock = some b → b = w2.heap.size ∨ w3.heap.size ≤ b) := Lib.hid fun gi ci w8 ho8 hg8 hat8 => by
                refine ⟨rs ++ [(.slice ko ks.length kc, ks)], by rw [List.length_append]; have := HRS.out; simp; omega, ⟨by simpa using ho8, fun r hr => ?_⟩, ?_, ?_, fun b e => ?_⟩
                · rcases List.mem_append.1 hr with h | h
                  · exact HF.out.each r h
                  · simp only [List.mem_singleton] at h
                    subst h
                    exact ⟨BK.out, hkl⟩
                · exact ((HSW.out.trans HKO.out (fun _ _ e => e)).alloc _).grown hg8 (fun b e hb => by have := (HOW.out.lt b e).1; omega)
                · exact ((HS.out.trans HKO.out (fun _ _ e => e.elim)).alloc _).grown hg8 (fun b e hb => by
                    rcases HRC.out b e with h | h
                    · exact h
                    · omega)
                · simp only [Value.ownBlock, Option.some.injEq] at e
                  subst e
                  rcases hat8 with h | h
                  · exact HRC.out _ h
                  · have h1 := HS.out.size
                    have h2 := HKO.out.size
                    omega
              by_cases q1 : (200 : Int) < (z : Int)
              · have hk1 : ¬ (1 : Int) < (k : Int) := by
                  rcases H5.out with h | h
                  · omega
                  · have := HZ2.out; omega
                go_wp2_with (at_builtin; refine wpList_append_one (by rfl) _ _ 32 22 i0 (by rfl) Try.underlying32 hi0 hz0 hz1 hz2 rfl (by omega) w.heap.size wr.heap.size 1 u6 (rs.map Prod.fst) (.slice ko ks.length kc) rfl (by rfl) (by rfl) (own_keeps ((Keeps.refl (fun _ => False) _).alloc _) HOW.out (fun _ _ e => e)) (heap_alloc_new _ _) (by rw [List.length_map]; have := HRS.out; omega) (by simp; have := HBASE.out; omega) ?_)
                intro gi ci w8 ho8 hg8 hat8
                obtain ⟨rs', t1, t2, t3, t4, t5⟩ := TAIL.out gi ci w8 ho8 hg8 hat8
                have T2 := Lib.hid t2
                have T3 := Lib.hid t3
                have T4 := Lib.hid t4
                have T5 := Lib.hid t5
                clear ho8 hg8 hat8 t2 t3 t4 t5
                go_wp2
                go_roundw
                case rel => exact ⟨j + 1, by omega, by go_num, a' + k, HA2.out, by omega, by go_num, rs', t1, T2.out, T3.out, T4.out, T5.out⟩
                case measure => simp [intOf]; omega
              · have hk1 : ¬ (200 : Int) < (z : Int) := q1
                go_wp2_with (at_builtin; refine wpList_append_one (by rfl) _ _ 32 22 i0 (by rfl) Try.underlying32 hi0 hz0 hz1 hz2 rfl (by omega) w.heap.size wr.heap.size 1 u6 (rs.map Prod.fst) (.slice ko ks.length kc) rfl (by rfl) (by rfl) (own_keeps ((Keeps.refl (fun _ => False) _).alloc _) HOW.out (fun _ _ e => e)) (heap_alloc_new _ _) (by rw [List.length_map]; have := HRS.out; omega) (by simp; have := HBASE.out; omega) ?_)
                intro gi ci w8 ho8 hg8 hat8
                obtain ⟨rs', t1, t2, t3, t4, t5⟩ := TAIL.out gi ci w8 ho8 hg8 hat8
                have T2 := Lib.hid t2
                have T3 := Lib.hid t3
                have T4 := Lib.hid t4
                have T5 := Lib.hid t5
                clear ho8 hg8 hat8 t2 t3 t4 t5
                go_wp2
                go_roundw
                case rel => exact ⟨j + 1, by omega, by go_num, a' + k, HA2.out, by omega, by go_num, rs', t1, T2.out, T3.out, T4.out, T5.out⟩
                case measure => simp [intOf]; omega
      · obtain rfl : j = L := by omega
        have haN5 : a = N := by
          have h1 := HA.out
          rw [List.take_of_length_le (by have := HL.out; omega), leaves_sum, HN.out] at h1
          omega
        subst haN5
        obtain ⟨fo, fc, rfl, hrows⟩ := HF.out.rows HSW.out
        have HRO := Lib.hid hrows
        have HEL : Hid (∀ r ∈ rs, r.2.length ≤ 1000000) := Lib.hid fun r hr => (HF.out.each r hr).2
        have hrl : rs.length ≤ 3000 := by omega
        clear hrows
        go_wp2_with fail
        ((with_reducible refine (inner_any fo fc level rs _ HRO.out (by omega) HEL.out).mono ?_); rintro e w5 ⟨v5, rfl, ho5, hk5⟩)
        have HK5 : Hid (Same w w5) := Lib.hid (HSW.out.trans hk5 (fun _ _ e => e))
        obtain ⟨M, hM⟩ : ∃ M, (innerOf rs level).length = M := ⟨_, rfl⟩
        have hMl : M ≤ 3000 := by have := groups_le (E := InnerEnds rs level) rs.length; have h2 : (innerOf rs level).length ≤ rs.length := this; omega
        have hi5 := Ints.of_own ho5
        have hform : ∃ io ic, v5 = .slice io M ic := by
          rcases hi5 with ⟨a, c, h, _⟩ | ⟨c, h, h0⟩
          · exact ⟨_, _, by rw [← hM]; exact h⟩
          · rw [h0] at hM; exact ⟨_, _, by rw [← hM]; exact h⟩
        obtain ⟨io, ic, rfl⟩ := hform
        have HI5 := Lib.hid hi5
        have HMH := Lib.hid hM
        clear hi5 hM ho5 hk5
        go_wp2
        go_loop [12, 92] (fun s i => ∃ k : Nat, k ≤ M ∧ i = .int .i64 k ∧ ∃ c : Nat, ((innerOf rs level).take k).sum = (c : Int) ∧ c ≤ 3000 ∧ s = .int .i64 c) (fun _ i => M - (intOf i).toNat)
        case atStart => exact ⟨0, by omega, rfl, 0, by simp, by omega, rfl⟩
        case round =>
          obtain ⟨k, hk, rfl, c, hc, hcl, rfl⟩ := hrel
          have HC := Lib.hid hc
          clear hc
          by_cases hkM : k < M
          · have hkl : k < (innerOf rs level).length := by have := HMH.out; omega
            obtain ⟨ad, rfl, hcell⟩ := HI5.out.at hkl
            obtain ⟨c', d, h1, h2, h3, h4, h5⟩ := inner_each rs level k hkl
            obtain rfl : c' = c := by have := HC.out; omega
            have hsn := sum_snoc (innerOf rs level) k hkl
            rw [h2] at hcell hsn
            have HC2 : Hid (((innerOf rs level).take (k + 1)).sum = ((c' + d : Nat) : Int)) := Lib.hid (by rw [hsn, h1]; omega)
            have h5' : c' + d ≤ 3000 := by omega
            have hd1 : ¬ (d : Int) < 1 := by omega
            have hd4 : ¬ (4 : Int) < (d : Int) := by omega
            have hkM2 : (k : Int) < (M : Int) := by omega
            clear h1 h2 h5 hsn hkl
            go_wp2
            go_round
            case rel => exact ⟨k + 1, by omega, by go_num, c' + d, HC2.out, h5', by go_num⟩
            case measure => simp [intOf]; omega
          · have hcr : c = rs.length := by
              have h1 := HC.out
              rw [List.take_of_length_le (by have := HMH.out; omega), inner_sum] at h1
              omega
            subst hcr
            go_wp2
            go_ret
            exact ⟨rfl, HK5.out⟩

end Go.Proofs.Ytfnbmigldciblaa
