/- What the document's Write of a node does. -/
import Derived.Test.YtdeajjppmgfemaaNd5
import Derived.Test.YtdeajjppmgfemaaOst
import Derived.Test.YtdeajjppmgfemaaRefText
namespace Go.Proofs.Ytdeajjppmgfemaa
open Go.RowKit
set_option linter.unusedVariables false

theorem cell_of_three {w : World} {b : Nat} {v0 v1 v2 : Value} {t : TypeId} (h : w.heap[b]? = some (.cells #[v0, v1, v2] t (0, 0))) :
    w.cell? ⟨b, 0, none⟩ = some v0 ∧ w.cell? ⟨b, 1, none⟩ = some v1 ∧ w.cell? ⟨b, 2, none⟩ = some v2 := by
  have h' : Whole w b t [v0, v1, v2] := h
  exact ⟨h'.cell rfl, h'.cell rfl, h'.cell rfl⟩
/-- What the document's Text tells. -/
theorem refText_w (ao : Option Addr) (n c : Nat) (more : List UInt8) (w : World) (hx : Bytes w (.slice ao n c) more) (hn : more.length = n) (hl : n ≤ 1000000) :
    Calls Try.prog 23 #[.slice ao n c] w fun e w' => ∃ v er b, e = .returned (.tuple #[v, .int .i64 er]) ∧ Same w w' ∧ Bytes w' v b ∧ (∀ a n c, v = .slice (some a) n c → w.heap.size ≤ a.block) ∧
      ((n ≤ 65535 ∧ er = 0 ∧ b = be n 2 ++ more) ∨ (65535 < n ∧ er = 23 ∧ b = [])) := by
  subst hn
  by_cases h : more.length ≤ 65535
  · refine (ref_text_ok _ more w hx h).mono fun e w' ⟨v, he, ho, hk, _⟩ => ⟨v, 0, _, he, hk, ?_, ?_, .inl ⟨h, rfl, rfl⟩⟩
    · obtain ⟨_, _, _, hb, _⟩ := Reads.of_own ho (by rw [List.length_append, be_length]); exact hb
    · intro a n c e; exact (ho.lt a.block (by rw [e]; rfl)).1
  · refine (ref_text_long ao _ c w (by omega) (by omega)).mono fun e w' ⟨g, he, hk, hg⟩ => ⟨_, 23, [], he, hk, Bytes.nil _ _ _, ?_, .inr ⟨by omega, rfl, rfl⟩⟩
    intro a n c e
    simp only [Value.slice.injEq, Option.some.injEq] at e
    rw [← e.1]; exact hg
theorem WPost.no' {w w' : World} {lv : Int} {ps ks : List (List UInt8 × List UInt8)} {g : Addr} {c : Nat} (k : Same w w') (h : ¬ NRight lv ps ks) (hg : w.heap.size ≤ g.block) : WPost w lv ps ks (.returned (.tuple #[.slice (some g) 0 c, .int .i64 1])) w' :=
  ⟨k, _, [], 1, rfl, Reads.nil _ _ _, fun a n c e => by simp only [Value.slice.injEq, Option.some.injEq] at e; rw [← e.1]; exact hg, .inr (.inr ⟨h, rfl, rfl⟩)⟩
theorem WPost.long' {w w' : World} {lv : Int} {ps ks : List (List UInt8 × List UInt8)} {g : Addr} {c : Nat} (k : Same w w') (h : NRight lv ps ks) (hl : 470 < (nodeB lv.toNat ps ks).length) (hg : w.heap.size ≤ g.block) : WPost w lv ps ks (.returned (.tuple #[.slice (some g) 0 c, .int .i64 23])) w' :=
  ⟨k, _, [], 23, rfl, Reads.nil _ _ _, fun a n c e => by simp only [Value.slice.injEq, Option.some.injEq] at e; rw [← e.1]; exact hg, .inr (.inl ⟨h, hl, rfl, rfl⟩)⟩
theorem WPost.yes' {w w' : World} {lv : Int} {ps ks : List (List UInt8 × List UInt8)} {v : Value} {lo : Nat} {bs : List UInt8} (k : Same w w') (hlo : w.heap.size ≤ lo) (h : NRight lv ps ks) (hb : bs = nodeB lv.toNat ps ks) (hl : bs.length ≤ 470) (ho : w'.ownsRow lo 5 1 v bs.length (u8s bs)) : WPost w lv ps ks (.returned (.tuple #[v, .int .i64 0])) w' := by
  subst hb
  exact ⟨k, v, _, 0, rfl, Reads.of_own ho rfl, fun a n c e => by have := (ho.lt a.block (by rw [e]; rfl)).1; omega, .inl ⟨h, hl, rfl, rfl⟩⟩

set_option maxRecDepth 100000 in
set_option maxHeartbeats 6400000 in
theorem refWrite_no (lv : Int) (po ko : Option Addr) (pn pc kn kc : Nat) (ps : List PairX) (ks : List KidX) (w : World) (h : NodeAt w po ko ps ks pc kc) (hp : ps.length = pn) (hk : ks.length = kn) (hpl : pn ≤ 1000000) (hkl : kn ≤ 1000000) (hno : ¬ NRight lv (kvs ps) (kks ks)) :
    Calls Try.prog 11 #[nodeV lv po pn pc ko kn kc] w (WPost w lv (kvs ps) (kks ks)) := by
  have hs0 : Same w (w.alloc (.cells #[.int .i64 lv, .slice po pn pc, .slice ko kn kc] 25)) := (Keeps.refl _ _).alloc _
  have HS0 := Lib.hid hs0
  have HPL : Hid (ps.length = pn) := Lib.hid hp
  have HKL : Hid (ks.length = kn) := Lib.hid hk
  have HH := Lib.hid h
  have HNO := Lib.hid hno
  clear hp hk h hs0 hno
  go_enter Try.func11, Try.ntmps11
  go_wp2_with fail
  ((with_reducible refine (refright_any lv po ko pn pc kn kc ps ks _ (HH.out.same HS0.out) HPL.out HKL.out hpl hkl).mono ?_); rintro e w2 ⟨b, rfl, hk2, hb⟩)
  obtain rfl : b = false := by
    cases b with
    | false => rfl
    | true => exact absurd (hb.1 rfl) HNO.out
  have HK := Lib.hid (HS0.out.trans hk2 (fun _ _ e => e))
  clear hk2 hb
  go_wp2
  go_ret2
  exact WPost.no' (HK.out.alloc _) HNO.out HK.out.size

set_option maxRecDepth 100000 in
set_option maxHeartbeats 12800000 in
theorem refWrite_leaf (po ko : Option Addr) (pn pc kc : Nat) (ps : List PairX) (ks : List KidX) (w : World) (h : NodeAt w po ko ps ks pc kc) (hp : ps.length = pn) (hk : ks.length = 0) (hps : psum ps ≤ 1000000) (hr : NRight 0 (kvs ps) (kks ks)) :
    Calls Try.prog 11 #[nodeV 0 po pn pc ko 0 kc] w (WPost w 0 (kvs ps) (kks ks)) := by
  obtain ⟨i0, hi0, hz0, hz1, hz2⟩ := info_parts Try.info5
  have hpl : pn ≤ 255 := by have := (hr.2.1 rfl).2.1; rw [kvs_length, hp] at this; exact this
  have hks : kks ks = [] := (hr.2.1 rfl).1
  have hs0 : Same w (w.alloc (.cells #[.int .i64 0, .slice po pn pc, .slice ko 0 kc] 25)) := (Keeps.refl _ _).alloc _
  have HS0 := Lib.hid hs0
  have HB : Hid ((w.alloc (.cells #[.int .i64 0, .slice po pn pc, .slice ko 0 kc] 25)).heap[w.heap.size]? = some (.cells #[.int .i64 0, .slice po pn pc, .slice ko 0 kc] 25 (0, 0))) := Lib.hid (heap_alloc_new w _)
  have HPL : Hid (ps.length = pn) := Lib.hid hp
  have HKL : Hid (ks.length = 0) := Lib.hid hk
  have HH := Lib.hid h
  have HR := Lib.hid hr
  have HKS := Lib.hid hks
  have HPS := Lib.hid hps
  clear hp hk h hs0 hr hks hps
  have u2 : IntKind.u8.wrap (pn : Int) = pn := by have := IntWalk.u8_in (pn : Int) (by omega); exact this
  have hhd : u8s (hdB 0 pn) = [.int .u8 84, .int .u8 0, .int .u8 (pn : Int)] := by
    simp only [hdB, u8s_append, be1 84 (by omega), be1 0 (by omega), be1 pn (by omega)]
    rfl
  have HHD := Lib.hid hhd
  clear hhd
  go_enter Try.func11, Try.ntmps11
  go_wp2_with fail
  ((with_reducible refine (refright_any 0 po ko pn pc 0 kc ps ks _ (HH.out.same HS0.out) HPL.out HKL.out (by omega) (by omega)).mono ?_); rintro e w2 ⟨b, rfl, hk2, hb⟩)
  obtain rfl : b = true := hb.2 HR.out
  have hz2' : w.heap.size < w2.heap.size := by have := hk2.size; simp at this; omega
  have HK := Lib.hid (HS0.out.trans hk2 (fun _ _ e => e))
  have HB2 := Lib.hid (hk2.obj HB.out (fun e => e))
  have HN2 := Lib.hid ((HH.out.same HS0.out).same hk2)
  obtain ⟨c20, c21, c22⟩ := cell_of_three HB2.out
  clear hk2 hb
  have HO3 : Hid (OSt w (w2.alloc (.cells #[.int .u8 84, .int .u8 0, .int .u8 (pn : Int)] 5)) w.heap.size w2.heap.size 25 5 #[.int .i64 0, .slice po pn pc, .slice ko 0 kc] w2.heap.size 3 (hdB 0 pn ++ ((kvs ps).take 0).flatMap codecP.enc)) := Lib.hid (by
    rw [show hdB 0 pn ++ ((kvs ps).take 0).flatMap codecP.enc = hdB 0 pn from by simp]
    refine ⟨((Keeps.refl (fun _ => False) w2).alloc _).obj HB2.out (fun e => e), ?_, HK.out.alloc _, HK.out.size, hz2'⟩
    have h1 := own_lit w2 5 (u8s (hdB 0 pn)) 3 (by rw [u8s_length, hdB_len]) (by omega)
    rw [HHD.out] at h1 ⊢
    rw [hdB_len]
    exact h1)
  go_wp2
  obtain ⟨w3, hw3⟩ : ∃ w3, w2.alloc (.cells #[.int .u8 84, .int .u8 0, .int .u8 (pn : Int)] 5) = w3 := ⟨_, rfl⟩
  rw [hw3] at HO3 ⊢
  clear hw3 c20 c21 c22
  go_loopw [4, 5] (fun v i wr => ∃ (j g c : Nat), j ≤ pn ∧ v = .slice (some ⟨g, 0, none⟩) (hdB 0 pn ++ ((kvs ps).take j).flatMap codecP.enc).length c ∧ i = .int .i64 j ∧ OSt w wr w.heap.size w2.heap.size 25 5 #[.int .i64 0, .slice po pn pc, .slice ko 0 kc] g c (hdB 0 pn ++ ((kvs ps).take j).flatMap codecP.enc)) (fun _ i _ => pn - (intOf i).toNat)
  case atStart => exact ⟨0, _, _, by omega, by simp [hdB_len], rfl, HO3.out⟩
  case round =>
    obtain ⟨j, g, c, hj, rfl, rfl, hst⟩ := hrel
    have HST := Lib.hid hst
    have hfar := hst.far
    obtain ⟨c0, c1, c2⟩ := cell_of_three hst.op
    clear hst HO3
    by_cases hlt : j < pn
    · have hjl : j < ps.length := by have := HPL.out; omega
      have HLO : Hid (65535 < ps[j].ks.length ∨ 65535 < ps[j].vs.length → 470 < (nodeB (0 : Int).toNat (kvs ps) (kks ks)).length) := Lib.hid (fun h => long_pair hjl h)
      have hnx : ((kvs ps).take (j + 1)).flatMap codecP.enc = ((kvs ps).take j).flatMap codecP.enc ++ ((be ps[j].ks.length 2 ++ ps[j].ks) ++ (be ps[j].vs.length 2 ++ ps[j].vs)) := by
        rw [flat_snoc _ _ _ (by rw [kvs_length]; exact hjl)]
        simp only [kvs, List.getElem_map]
        rfl
      have hyl : (hdB 0 pn ++ ((kvs ps).take j).flatMap codecP.enc).length ≤ 1000003 := by
        rw [List.length_append, hdB_len]
        have := flatP_take ps j
        have := HPS.out
        omega
      have hsz : ps[j].ks.length ≤ 1000000 ∧ ps[j].vs.length ≤ 1000000 := by
        have h1 := psum_snoc ps j hjl
        have h2 := psum_take_le ps (j + 1)
        have h3 : psize ps[j] = 4 + ps[j].ks.length + ps[j].vs.length := rfl
        have := HPS.out
        omega
      obtain ⟨gp, off, kO, kC, vO, vC, rfl, -, -, k0, k1, bk, bv⟩ := (HH.out.pairs.same HST.out.same).at hjl
      generalize ps[j].ks = kk at *
      generalize ps[j].vs = vv at *
      obtain ⟨m1, hm1⟩ : ∃ m, be kk.length 2 ++ kk = m := ⟨_, rfl⟩
      obtain ⟨m2, hm2⟩ : ∃ m, be vv.length 2 ++ vv = m := ⟨_, rfl⟩
      have HML : Hid (m1.length = 2 + kk.length ∧ m2.length = 2 + vv.length) := Lib.hid (by rw [← hm1, ← hm2]; simp [be_length])
      rw [hm1, hm2] at hnx
      obtain ⟨y, hy⟩ : ∃ y, hdB 0 pn ++ ((kvs ps).take j).flatMap codecP.enc = y := ⟨_, rfl⟩
      obtain ⟨y3, hy3⟩ : ∃ y3, y ++ m1 = y3 := ⟨_, rfl⟩
      have HNY : Hid (hdB 0 pn ++ ((kvs ps).take (j + 1)).flatMap codecP.enc = y3 ++ m2) := Lib.hid (by rw [hnx, ← List.append_assoc, hy, ← hy3, List.append_assoc])
      have HY3 := Lib.hid hy3
      have HL3 : Hid (y.length + m1.length = y3.length) := Lib.hid (by rw [← hy3, List.length_append])
      have HM1 := Lib.hid hm1
      have HM2 := Lib.hid hm2
      rw [hy] at HST hyl ⊢
      have HYL := Lib.hid hyl
      have HBV := Lib.hid bv
      have HBK := Lib.hid bk
      have hjn : (j : Int) < (pn : Int) := by omega
      clear hy hyl hnx hm1 hm2 hy3 bv bk
      go_wp2_with fail
      ((with_reducible refine (refText_w kO kk.length kC kk _ HBK.out rfl (by omega)).mono ?_); rintro e w6 ⟨v1, er1, b1, rfl, hk6, hb1, hf1, hc1⟩)
      obtain ⟨k0, k1, -⟩ := pairS k0 k1 hk6
      have HST6 := Lib.hid (HST.out.keep hk6)
      obtain ⟨d0, d1, d2⟩ := cell_of_three HST6.out.op
      have HB1 := Lib.hid hb1
      have HF1 := Lib.hid hf1
      have HC1 := Lib.hid hc1
      have HK6 := Lib.hid hk6
      have hz6 := hk6.size
      clear hb1 hf1 hc1 hk6 c0 c1 c2
      go_wp2_with fail
      ((with_reducible refine (refText_w vO vv.length vC vv _ (HBV.out.same HK6.out) rfl (by omega)).mono ?_); rintro e w7 ⟨v2, er2, b2, rfl, hk7, hb2, hf2, hc2⟩)
      have HST7 := Lib.hid (HST6.out.keep hk7)
      have HB17 := Lib.hid (HB1.out.same hk7)
      have HB2 := Lib.hid hb2
      have HF2 := Lib.hid hf2
      have hz7 := hk7.size
      have HS7 := Lib.hid HST7.out.same
      have hw7 := HST7.out.same.size
      clear hb2 hf2 hk7 HB1 d0 d1 d2 k0 k1
      rcases HC1.out with ⟨h1, rfl, rfl⟩ | ⟨h1, rfl, rfl⟩
      · rcases hc2 with ⟨h2, rfl, rfl⟩ | ⟨h2, rfl, rfl⟩
        · rw [HM1.out] at HB17
          rw [HM2.out] at HB2
          have HF1g : Hid (∀ a n c, v1 = .slice (some a) n c → ¬ a.block = g) := Lib.hid fun a n c e => by have := HF1.out a n c e; omega
          have HF2g : Hid (∀ a n c, v2 = .slice (some a) n c → ¬ a.block = g) := Lib.hid fun a n c e => by have := HF2.out a n c e; omega
          clear HC1
          go_wp2_with (first
            | (at_builtin; refine wpList_append_bytes (by rfl) _ _ 29 5 i0 (by rfl) Try.underlying29 hi0 hz0 hz1 hz2 w2.heap.size g c y m1 v1 (by rfl) (by rfl) HST7.out.own HB17.out (by have := HYL.out; have := HML.out; omega) (by omega) ?_
               intro g3 c3 w8 ho3 hg3 hat3
               have hst8 := HST7.out.grow ho3 hg3
               have HB28 := Lib.hid (HB2.out.keeps ((Keeps.refl (fun q => q = g) w7).grown hg3 (fun k e _ => by simp only [Option.some.injEq] at e; exact e.symm)) HF2g.out)
               have hz8 := hg3.size
               rw [HY3.out] at hst8
               rw [HL3.out]
               have HST8 := Lib.hid hst8
               clear hst8 ho3 hg3 hat3)
            | (at_builtin; refine wpList_append_bytes (by rfl) _ _ 29 5 i0 (by rfl) Try.underlying29 hi0 hz0 hz1 hz2 w2.heap.size g3 c3 y3 m2 v2 (by rfl) (by rfl) HST8.out.own HB28.out (by have := HYL.out; have := HML.out; have := HL3.out; omega) (by omega) ?_
               intro g4 c4 w9 ho4 hg4 hat4
               have HST9 := Lib.hid (HST8.out.grow ho4 hg4)
               clear ho4 hg4 hat4))
          go_roundw
          case rel => exact ⟨j + 1, g4, c4, by omega, by rw [HNY.out, List.length_append], by go_num, by rw [HNY.out]; exact HST9.out⟩
          case measure => simp [intOf]; omega
        · have HL := Lib.hid (HLO.out (.inr h2))
          clear HLO HC1
          go_wp2
          go_ret2
          exact WPost.long' (HS7.out.alloc _) HR.out HL.out hw7
      · have HL := Lib.hid (HLO.out (.inl h1))
        clear HLO HC1 hc2
        go_wp2
        go_ret2
        exact WPost.long' (HS7.out.alloc _) HR.out HL.out hw7
    · obtain rfl : j = pn := by omega
      have HNB : Hid (hdB 0 j ++ ((kvs ps).take j).flatMap codecP.enc = nodeB (0 : Int).toNat (kvs ps) (kks ks)) := Lib.hid (by
        rw [nodeB_hd, HKS.out, kvs_length, HPL.out, List.take_of_length_le (by rw [kvs_length, HPL.out]; exact Nat.le_refl _)]
        simp)
      rw [HNB.out] at HST ⊢
      clear HNB
      obtain ⟨y, hy⟩ : ∃ y, nodeB (0 : Int).toNat (kvs ps) (kks ks) = y := ⟨_, rfl⟩
      have HY := Lib.hid hy
      rw [hy] at HST ⊢
      clear hy
      go_wp2
      refine wp_loop_rounds 1 ?_
      rw [rounds_succ]
      have hw := HST.out.same.size
      have HS := Lib.hid HST.out.same
      have HO := Lib.hid HST.out.own
      have hlo := HST.out.lo1
      by_cases hl : y.length ≤ 470
      · have HL := Lib.hid hl
        obtain ⟨n, hN⟩ : ∃ n, y.length = n := ⟨_, rfl⟩
        rw [hN] at hl ⊢
        have hl2 : ¬ (470 : Int) < (n : Int) := by omega
        have HNN := Lib.hid hN
        clear hN hl
        go_wp2
        go_ret2
        exact WPost.yes' HS.out hlo HR.out HY.out.symm HL.out (by have := HO.out; rw [HNN.out] at this ⊢; exact this)
      · have HL := Lib.hid hl
        obtain ⟨n, hN⟩ : ∃ n, y.length = n := ⟨_, rfl⟩
        rw [hN] at hl ⊢
        have hl2 : (470 : Int) < (n : Int) := by omega
        clear hN hl
        go_wp2
        go_ret2
        exact WPost.long' (HS.out.alloc _) HR.out (by rw [HY.out]; have := HL.out; omega) hw

set_option maxRecDepth 100000 in
set_option maxHeartbeats 12800000 in
theorem refWrite_inner (L : Nat) (po ko : Option Addr) (pc kn kc : Nat) (ps : List PairX) (ks : List KidX) (w : World) (h : NodeAt w po ko ps ks pc kc) (hp : ps.length = 0) (hk : ks.length = kn) (hks : ∀ k ∈ ks, k.hs.length = 32 ∧ k.fs.length ≤ 1000000) (hr : NRight (L : Int) (kvs ps) (kks ks)) (hL : 1 ≤ L) :
    Calls Try.prog 11 #[nodeV (L : Int) po 0 pc ko kn kc] w (WPost w (L : Int) (kvs ps) (kks ks)) := by
  obtain ⟨i0, hi0, hz0, hz1, hz2⟩ := info_parts Try.info5
  have hL0 : ¬ (L : Int) = 0 := by omega
  have hL15 : (L : Int) ≤ 15 := hr.1.2
  have hkl : kn ≤ 4 := by have := (hr.2.2 hL0).2.1; rw [kks_length, hk] at this; exact this.2
  have hps : kvs ps = [] := (hr.2.2 hL0).1
  have hs0 : Same w (w.alloc (.cells #[.int .i64 (L : Int), .slice po 0 pc, .slice ko kn kc] 25)) := (Keeps.refl _ _).alloc _
  have HS0 := Lib.hid hs0
  have HB : Hid ((w.alloc (.cells #[.int .i64 (L : Int), .slice po 0 pc, .slice ko kn kc] 25)).heap[w.heap.size]? = some (.cells #[.int .i64 (L : Int), .slice po 0 pc, .slice ko kn kc] 25 (0, 0))) := Lib.hid (heap_alloc_new w _)
  have HPL : Hid (ps.length = 0) := Lib.hid hp
  have HKL : Hid (ks.length = kn) := Lib.hid hk
  have HH := Lib.hid h
  have HR := Lib.hid hr
  have HKS := Lib.hid hks
  have HPS := Lib.hid hps
  clear hp hk h hs0 hr hks hps
  have u1 : IntKind.u8.wrap (L : Int) = L := by have := IntWalk.u8_in (L : Int) (by omega); exact this
  have u2 : IntKind.u8.wrap (kn : Int) = kn := by have := IntWalk.u8_in (kn : Int) (by omega); exact this
  have hhd : u8s (hdB L kn) = [.int .u8 84, .int .u8 (L : Int), .int .u8 (kn : Int)] := by
    simp only [hdB, u8s_append, be1 84 (by omega), be1 L (by omega), be1 kn (by omega)]
    rfl
  have HHD := Lib.hid hhd
  clear hhd
  go_enter Try.func11, Try.ntmps11
  go_wp2_with fail
  ((with_reducible refine (refright_any (L : Int) po ko 0 pc kn kc ps ks _ (HH.out.same HS0.out) HPL.out HKL.out (by omega) (by omega)).mono ?_); rintro e w2 ⟨b, rfl, hk2, hb⟩)
  obtain rfl : b = true := hb.2 HR.out
  have hz2' : w.heap.size < w2.heap.size := by have := hk2.size; simp at this; omega
  have HK := Lib.hid (HS0.out.trans hk2 (fun _ _ e => e))
  have HB2 := Lib.hid (hk2.obj HB.out (fun e => e))
  have HN2 := Lib.hid ((HH.out.same HS0.out).same hk2)
  obtain ⟨c20, c21, c22⟩ := cell_of_three HB2.out
  clear hk2 hb
  have HO3 : Hid (OSt w (w2.alloc (.cells #[.int .u8 84, .int .u8 (L : Int), .int .u8 (kn : Int)] 5)) w.heap.size w2.heap.size 25 5 #[.int .i64 (L : Int), .slice po 0 pc, .slice ko kn kc] w2.heap.size 3 (hdB L kn ++ ((kks ks).take 0).flatMap codecK.enc)) := Lib.hid (by
    rw [show hdB L kn ++ ((kks ks).take 0).flatMap codecK.enc = hdB L kn from by simp]
    refine ⟨((Keeps.refl (fun _ => False) w2).alloc _).obj HB2.out (fun e => e), ?_, HK.out.alloc _, HK.out.size, hz2'⟩
    have h1 := own_lit w2 5 (u8s (hdB L kn)) 3 (by rw [u8s_length, hdB_len]) (by omega)
    rw [HHD.out] at h1 ⊢
    rw [hdB_len]
    exact h1)
  go_wp2
  obtain ⟨w3, hw3⟩ : ∃ w3, w2.alloc (.cells #[.int .u8 84, .int .u8 (L : Int), .int .u8 (kn : Int)] 5) = w3 := ⟨_, rfl⟩
  rw [hw3] at HO3 ⊢
  clear hw3 c20 c21 c22
  obtain ⟨c30, c31, c32⟩ := cell_of_three HO3.out.op
  refine wp_loop_rounds 1 ?_
  rw [rounds_succ]
  go_wp2
  clear c30 c31 c32
  go_loopw [4, 10] (fun v i wr => ∃ (j g c : Nat), j ≤ kn ∧ v = .slice (some ⟨g, 0, none⟩) (hdB L kn ++ ((kks ks).take j).flatMap codecK.enc).length c ∧ i = .int .i64 j ∧ OSt w wr w.heap.size w2.heap.size 25 5 #[.int .i64 (L : Int), .slice po 0 pc, .slice ko kn kc] g c (hdB L kn ++ ((kks ks).take j).flatMap codecK.enc)) (fun _ i _ => kn - (intOf i).toNat)
  case atStart => exact ⟨0, _, _, by omega, by simp [hdB_len], rfl, HO3.out⟩
  case round =>
    obtain ⟨j, g, c, hj, rfl, rfl, hst⟩ := hrel
    have HST := Lib.hid hst
    have hfar := hst.far
    obtain ⟨c0, c1, c2⟩ := cell_of_three hst.op
    clear hst HO3
    by_cases hlt : j < kn
    · have hjl : j < ks.length := by have := HKL.out; omega
      have HLO : Hid (65535 < ks[j].fs.length → 470 < (nodeB (L : Int).toNat (kvs ps) (kks ks)).length) := Lib.hid (fun h => long_kid hjl h)
      have hnx : ((kks ks).take (j + 1)).flatMap codecK.enc = ((kks ks).take j).flatMap codecK.enc ++ ((be ks[j].fs.length 2 ++ ks[j].fs) ++ ks[j].hs) := by
        rw [flat_snoc _ _ _ (by rw [kks_length]; exact hjl)]
        simp only [kks, List.getElem_map]
        rfl
      have hyl : (hdB L kn ++ ((kks ks).take j).flatMap codecK.enc).length ≤ 4000139 := by
        rw [List.length_append, hdB_len]
        have := flatK_take ks (by rw [HKL.out]; exact hkl) HKS.out j
        omega
      obtain ⟨gk, off, fO, fC, rfl, ef, hka⟩ := (HH.out.kids.same HST.out.same).at hjl
      have hsz := HKS.out ks[j] (List.getElem_mem hjl)
      generalize ks[j] = k at *
      have bk : Bytes wr (.slice fO k.fs.length fC) k.fs := by rw [← ef]; exact hka.bf
      have k0 : wr.cell? ⟨gk, off + j * 33, none⟩ = some (.slice fO k.fs.length fC) := by rw [← ef]; exact hka.cell0
      have HKA := Lib.hid hka
      obtain ⟨kk, hkk⟩ : ∃ l, k.fs = l := ⟨_, rfl⟩
      rw [hkk] at HLO hnx hsz bk k0
      obtain ⟨m, hm⟩ : ∃ m, be kk.length 2 ++ kk = m := ⟨_, rfl⟩
      have HML : Hid (m.length = 2 + kk.length ∧ k.hs.length = 32) := Lib.hid (by rw [← hm]; exact ⟨by simp [be_length], hka.hl⟩)
      rw [hm] at hnx
      obtain ⟨y, hy⟩ : ∃ y, hdB L kn ++ ((kks ks).take j).flatMap codecK.enc = y := ⟨_, rfl⟩
      obtain ⟨y3, hy3⟩ : ∃ y3, y ++ m = y3 := ⟨_, rfl⟩
      have HNY : Hid (hdB L kn ++ ((kks ks).take (j + 1)).flatMap codecK.enc = y3 ++ k.hs) := Lib.hid (by rw [hnx, ← List.append_assoc, hy, ← hy3, List.append_assoc])
      have HL3 : Hid (y.length + m.length = y3.length) := Lib.hid (by rw [← hy3, List.length_append])
      have HY3 := Lib.hid hy3
      have HM := Lib.hid hm
      rw [hy] at HST hyl ⊢
      have HYL := Lib.hid hyl
      have HBK := Lib.hid bk
      have hjn : (j : Int) < (kn : Int) := by omega
      have hgk : gk < wr.heap.size ∧ gk < w.heap.size := by
        obtain ⟨gk', off', _, _, e1, _, h1⟩ := HH.out.kids.at hjl
        simp only [Option.some.injEq, Addr.mk.injEq] at e1
        obtain ⟨rfl, _, _⟩ := e1
        have h2 := World.block_lt_of_cell? _ _ h1.cell0
        have h3 := HST.out.same.size
        exact ⟨Nat.lt_of_lt_of_le h2 h3, h2⟩
      clear hy hyl hnx hm hy3 bk hkk ef hka
      go_wp2_with fail
      ((with_reducible refine (refText_w fO kk.length fC kk _ HBK.out rfl (by omega)).mono ?_); rintro e w6 ⟨v1, er1, b1, rfl, hk6, hb1, hf1, hc1⟩)
      have hst6 := HST.out.keep hk6
      have hfar6 := hst6.far
      have hlo6 := hst6.lo1
      have hw6 := hst6.same.size
      have HKA6 := Lib.hid (HKA.out.same hk6)
      clear HST
      have HST := Lib.hid hst6
      have HF1 : Hid (∀ a n c, v1 = .slice (some a) n c → ¬ a.block = g) := Lib.hid fun a n c e => by have := hf1 a n c e; omega
      have HS6 := Lib.hid hst6.same
      clear hf1 hk6 c0 c1 c2 hst6
      rcases hc1 with ⟨h1, rfl, rfl⟩ | ⟨h1, rfl, rfl⟩
      · rw [HM.out] at hb1
        have HB1 := Lib.hid hb1
        clear hb1 k0
        go_wp2
        refine wp_region_hand [[], [], [0, 1], [], [3], [], [4, 5], [6], [7], [2, 8, 2], [9, 9, 0, 1, 2, 3, 4, 5, 6, 7, 8, 9]]
          [some 88, some 89, some 90, some 91, some 92, some 93, some 94, some 95, some 96, some 97, some 4]
          [.is (.slice (some ⟨g, 0, none⟩) y.length c), .is (v1), .any, .is (.pointer (some ⟨w.heap.size, 2, none⟩)), .is (.slice (some ⟨gk, off, none⟩) kn kc), .is (.int .i64 (j : Int)), .is (.pointer (some ⟨gk, off + j * 33, none⟩)), .is (.pointer (some ⟨gk, off + j * 33 + 1, none⟩)), .is (.slice (some ⟨gk, off + j * 33 + 1, none⟩) 32 32), .any, .any]
          (fun k => k = g) [2] (HandS w2.heap.size g c 5 y m) 18 _ _ 103 9 11 (by kernel_rfl) (by rfl) (by rfl) (by omega) (by kernel_rfl) (by kernel_rfl) (by decide) (by decide) (fun k e => by omega) HST.out.own HandS.same ?_ ?_
        · refine ⟨?_, ?_, ?_, ?_, ?_, ?_, ?_, ?_, ?_, trivial⟩
          · intro a w' K hs' hdep hfr hK
            have f4 := hfr 4 (by decide)
            exact plan_do (by rfl) (plan_yield (i := 0) (V := fun _ _ v => v = (.slice (some ⟨g, 0, none⟩) y.length c : Value)) (.slice (some ⟨g, 0, none⟩) y.length c) (by go_simp) rfl hK)
          · intro a w' K hs' hdep hfr hK
            have f11 := hfr 11 (by decide)
            exact plan_do (by rfl) (plan_yield (i := 1) (V := fun _ _ v => v = (v1 : Value)) (v1) (by go_simp) rfl hK)
          · intro a w' K hs' hdep hfr ev hE hev hK
            have e88 : a.tmps[88]?.getD undef = (.slice (some ⟨g, 0, none⟩) y.length c) := hdep 0 (by decide) 88 rfl
            have e89 : a.tmps[89]?.getD undef = (v1) := hdep 1 (by decide) 89 rfl
            refine step_append_bytes (by rfl) (.tmp 88) (.tmp 89) 29 5 i0 (by rfl) Try.underlying29 hi0 hz0 hz1 hz2 w2.heap.size g c y m _ ((eval_tmp _ _).trans e88) ((eval_tmp _ _).trans e89) hE (HB1.out.keeps hs' HF1.out) (by have := HYL.out; have := HML.out; omega) (by have := hs'.size; omega) ?_
            intro g' cap' w'' ho hg hat
            refine hK _ _ ((Keeps.refl _ _).grown hg (fun k e _ => by simp only [Option.some.injEq] at e; exact e.symm)) ⟨g', cap', by rw [List.length_append], ?_⟩ trivial
            rw [List.length_append]
            exact ho
          · intro a w' K hs' hdep hfr hK
            have f1 := hfr 1 (by decide)
            exact plan_do (by rfl) (plan_yield (i := 3) (V := fun _ _ v => v = (.pointer (some ⟨w.heap.size, 2, none⟩) : Value)) (.pointer (some ⟨w.heap.size, 2, none⟩)) (by go_simp) rfl hK)
          · intro a w' K hs' hdep hfr hK
            have e91 : a.tmps[91]?.getD undef = (.pointer (some ⟨w.heap.size, 2, none⟩)) := hdep 3 (by decide) 91 rfl
            have cl := (cell_of_three (hs'.obj HST.out.op (by omega))).2.2
            exact plan_do (by rfl) (plan_yield (i := 4) (V := fun _ _ v => v = (.slice (some ⟨gk, off, none⟩) kn kc : Value)) (.slice (some ⟨gk, off, none⟩) kn kc) (by go_simp) rfl hK)
          · intro a w' K hs' hdep hfr hK
            have f10 := hfr 10 (by decide)
            exact plan_do (by rfl) (plan_yield (i := 5) (V := fun _ _ v => v = (.int .i64 (j : Int) : Value)) (.int .i64 (j : Int)) (by go_simp) rfl hK)
          · intro a w' K hs' hdep hfr hK
            have e92 : a.tmps[92]?.getD undef = (.slice (some ⟨gk, off, none⟩) kn kc) := hdep 4 (by decide) 92 rfl
            have e93 : a.tmps[93]?.getD undef = (.int .i64 (j : Int)) := hdep 5 (by decide) 93 rfl
            have hin : (j : Int) < (kn : Int) := by omega
            exact plan_do (by rfl) (plan_yield (i := 6) (V := fun _ _ v => v = (.pointer (some ⟨gk, off + j * 33, none⟩) : Value)) (.pointer (some ⟨gk, off + j * 33, none⟩)) (by go_simp) rfl hK)
          · intro a w' K hs' hdep hfr hK
            have e94 : a.tmps[94]?.getD undef = (.pointer (some ⟨gk, off + j * 33, none⟩)) := hdep 6 (by decide) 94 rfl
            exact plan_do (by rfl) (plan_yield (i := 7) (V := fun _ _ v => v = (.pointer (some ⟨gk, off + j * 33 + 1, none⟩) : Value)) (.pointer (some ⟨gk, off + j * 33 + 1, none⟩)) (by go_simp) rfl hK)
          · intro a w' K hs' hdep hfr hK
            have e95 : a.tmps[95]?.getD undef = (.pointer (some ⟨gk, off + j * 33 + 1, none⟩)) := hdep 7 (by decide) 95 rfl
            exact plan_do (by rfl) (plan_yield (i := 8) (V := fun _ _ v => v = (.slice (some ⟨gk, off + j * 33 + 1, none⟩) 32 32 : Value)) (.slice (some ⟨gk, off + j * 33 + 1, none⟩) 32 32) (by go_simp) rfl hK)
        intro a wz hkz hdef hsz hv hfr ev hEz hev
        have e90 := hev 0 90 rfl rfl
        have e96 : a.tmps[96]?.getD undef = (.slice (some ⟨gk, off + j * 33 + 1, none⟩) 32 32) := hv 8 96 (by omega) rfl
        have he := act_eq a _ [some 88, some 89, some 90, some 91, some 92, some 93, some 94, some 95, some 96] 103 rfl hsz hdef hfr (fun d => a.tmps[d]?.getD undef) (fun _ _ => rfl)
        obtain ⟨v88, h88⟩ : ∃ v, a.tmps[88]?.getD undef = v := ⟨_, rfl⟩
        obtain ⟨v89, h89⟩ : ∃ v, a.tmps[89]?.getD undef = v := ⟨_, rfl⟩
        obtain ⟨v91, h91⟩ : ∃ v, a.tmps[91]?.getD undef = v := ⟨_, rfl⟩
        obtain ⟨v92, h92⟩ : ∃ v, a.tmps[92]?.getD undef = v := ⟨_, rfl⟩
        obtain ⟨v93, h93⟩ : ∃ v, a.tmps[93]?.getD undef = v := ⟨_, rfl⟩
        obtain ⟨v94, h94⟩ : ∃ v, a.tmps[94]?.getD undef = v := ⟨_, rfl⟩
        obtain ⟨v95, h95⟩ : ∃ v, a.tmps[95]?.getD undef = v := ⟨_, rfl⟩
        simp only [putAll, e90, e96, h88, h89, h91, h92, h93, h94, h95, List.setIfInBounds_toArray, List.set_cons_zero, List.set_cons_succ] at he
        clear e90 e96 h88 h89 h91 h92 h93 h94 h95 hdef hsz hv hfr hev
        subst he
        obtain ⟨g3, c3, rfl, ho3⟩ := hEz
        have hst8 := HST.out.keepg hkz ho3
        rw [HY3.out] at hst8 ⊢
        have HBH : Hid (Bytes wz (.slice (some ⟨gk, off + j * 33 + 1, none⟩) 32 32) k.hs) := Lib.hid ((HKA6.out.hash 32).keeps hkz (fun a n c e => by simp only [Value.slice.injEq, Option.some.injEq] at e; obtain ⟨rfl, _, _⟩ := e; simp only; omega))
        have hz8 := hst8.same.size
        have hlo8 := hst8.far
        have HST8 := Lib.hid hst8
        clear hst8 ho3 hkz HB1
        refine wpList_append_bytes (by rfl) _ _ 29 5 i0 (by rfl) Try.underlying29 hi0 hz0 hz1 hz2 w2.heap.size g3 c3 y3 k.hs _ (by rfl) (by rfl) HST8.out.own HBH.out (by have := HYL.out; have := HML.out; have := HL3.out; omega) (by omega) ?_
        intro g4 c4 w9 ho4 hg4 hat4
        have HST9 := Lib.hid (HST8.out.grow ho4 hg4)
        clear ho4 hg4 hat4
        go_wp2
        go_roundw
        case rel => exact ⟨j + 1, g4, c4, by omega, by rw [HNY.out, List.length_append, HML.out.2], by go_num, by rw [HNY.out]; exact HST9.out⟩
        case measure => simp [intOf]; omega
      · have HL := Lib.hid (HLO.out h1)
        clear HLO
        go_wp2
        go_ret2
        exact WPost.long' (HS6.out.alloc _) HR.out HL.out hw6
    · obtain rfl : j = kn := by omega
      have HNB : Hid (hdB L j ++ ((kks ks).take j).flatMap codecK.enc = nodeB (L : Int).toNat (kvs ps) (kks ks)) := Lib.hid (by
        rw [nodeB_hd, HPS.out, kks_length, HKL.out, List.take_of_length_le (by rw [kks_length, HKL.out]; exact Nat.le_refl _)]
        simp)
      rw [HNB.out] at HST ⊢
      clear HNB
      obtain ⟨y, hy⟩ : ∃ y, nodeB (L : Int).toNat (kvs ps) (kks ks) = y := ⟨_, rfl⟩
      have HY := Lib.hid hy
      rw [hy] at HST ⊢
      clear hy
      have hw := HST.out.same.size
      have HS := Lib.hid HST.out.same
      have HO := Lib.hid HST.out.own
      have hlo := HST.out.lo1
      by_cases hl : y.length ≤ 470
      · have HL := Lib.hid hl
        obtain ⟨n, hN⟩ : ∃ n, y.length = n := ⟨_, rfl⟩
        rw [hN] at hl ⊢
        have hl2 : ¬ (470 : Int) < (n : Int) := by omega
        have HNN := Lib.hid hN
        clear hN hl
        go_wp2
        go_ret2
        exact WPost.yes' HS.out hlo HR.out HY.out.symm HL.out (by have := HO.out; rw [HNN.out] at this ⊢; exact this)
      · have HL := Lib.hid hl
        obtain ⟨n, hN⟩ : ∃ n, y.length = n := ⟨_, rfl⟩
        rw [hN] at hl ⊢
        have hl2 : (470 : Int) < (n : Int) := by omega
        clear hN hl
        go_wp2
        go_ret2
        exact WPost.long' (HS.out.alloc _) HR.out (by rw [HY.out]; have := HL.out; omega) hw

theorem refWrite_any (lv : Int) (po ko : Option Addr) (pn pc kn kc : Nat) (ps : List PairX) (ks : List KidX) (w : World) (h : NodeAt w po ko ps ks pc kc) (hp : ps.length = pn) (hk : ks.length = kn) (hps : psum ps ≤ 1000000) (hks : ∀ k ∈ ks, k.fs.length ≤ 1000000) (hkl : kn ≤ 1000000) :
    Calls Try.prog 11 #[nodeV lv po pn pc ko kn kc] w (WPost w lv (kvs ps) (kks ks)) := by
  by_cases hr : NRight lv (kvs ps) (kks ks)
  · obtain ⟨L, rfl⟩ : ∃ L : Nat, lv = (L : Int) := ⟨lv.toNat, by have := hr.1; omega⟩
    by_cases h0 : L = 0
    · subst h0
      have h1 : ks.length = 0 := by have := (hr.2.1 rfl).1; rw [← kks_length, this]; rfl
      have h2 : kn = 0 := by omega
      subst h2
      exact refWrite_leaf po ko pn pc kc ps ks w h hp hk hps hr
    · have h1 : ps.length = 0 := by have := (hr.2.2 (by omega)).1; rw [← kvs_length, this]; rfl
      have h2 : pn = 0 := by omega
      subst h2
      refine refWrite_inner L po ko pc kn kc ps ks w h hp hk (fun k hkm => ⟨?_, hks k hkm⟩) hr (by omega)
      obtain ⟨j, hj, rfl⟩ := List.getElem_of_mem hkm
      obtain ⟨_, _, _, _, _, _, hka⟩ := h.kids.at hj
      exact hka.hl
  · exact refWrite_no lv po ko pn pc kn kc ps ks w h hp hk (by have := psum_len ps; omega) hkl hr
end Go.Proofs.Ytdeajjppmgfemaa
