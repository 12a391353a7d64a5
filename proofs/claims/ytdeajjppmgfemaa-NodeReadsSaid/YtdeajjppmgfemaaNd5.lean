/- What node.Write does of an inner node. -/
import Derived.Test.YtdeajjppmgfemaaNd4
namespace Go.Proofs.Ytdeajjppmgfemaa
open Go.RowKit
set_option linter.unusedVariables false

set_option maxRecDepth 100000 in
set_option maxHeartbeats 12800000 in
theorem nodeWrite_inner (L : Nat) (po ko : Option Addr) (pc kn kc : Nat) (ps : List PairX) (ks : List KidX) (w : World) (h : NodeAt w po ko ps ks pc kc) (hp : ps.length = 0) (hk : ks.length = kn) (hks : ∀ k ∈ ks, k.hs.length = 32 ∧ k.fs.length ≤ 1000000) (hr : NRight (L : Int) (kvs ps) (kks ks)) (hL : 1 ≤ L) :
    Calls Try.prog 10 #[nodeV (L : Int) po 0 pc ko kn kc] w (WPost w (L : Int) (kvs ps) (kks ks)) := by
  have hL0 : ¬ (L : Int) = 0 := by omega
  have hL15 : (L : Int) ≤ 15 := hr.1.2
  have hkl : kn ≤ 4 := by have := (hr.2.2 hL0).2.1; rw [kks_length, hk] at this; exact this.2
  have hps : kvs ps = [] := (hr.2.2 hL0).1
  have g0 : ((L : Int) == 0) = false := by simpa using hL0
  have hs0 : Same w (w.alloc (.cells #[.int .i64 (L : Int), .slice po 0 pc, .slice ko kn kc] 25)) := (Keeps.refl _ _).alloc _
  have hB : Whole (w.alloc (.cells #[.int .i64 (L : Int), .slice po 0 pc, .slice ko kn kc] 25)) w.heap.size 25 [.int .i64 (L : Int), .slice po 0 pc, .slice ko kn kc] := heap_alloc_new w _
  have HS0 := Lib.hid hs0
  have HB := Lib.hid hB
  have HPL : Hid (ps.length = 0) := Lib.hid hp
  have HKL : Hid (ks.length = kn) := Lib.hid hk
  have HH := Lib.hid h
  have HR := Lib.hid hr
  have HKS := Lib.hid hks
  have HPS := Lib.hid hps
  clear hp hk h hs0 hr hks hps hB
  have u1 : IntKind.u64.wrap (kn : Int) = kn := u64_wrap_in _ (by omega) (by omega)
  have u2 : IntKind.u64.wrap (L : Int) = L := u64_wrap_in _ (by omega) (by omega)
  have hzk := Try.zeroKid
  go_enter Try.func10, Try.ntmps10
  go_wp2_with fail
  ((with_reducible refine (nright_any (L : Int) po ko 0 pc kn kc ps ks _ (HH.out.same HS0.out) HPL.out HKL.out (by omega) (by omega)).mono ?_); rintro e w2 ⟨b, rfl, hk2, hb⟩)
  obtain rfl : b = true := hb.2 HR.out
  have HK := Lib.hid (HS0.out.trans hk2 (fun _ _ e => e))
  have HB2 := Lib.hid (HB.out.keep hk2 (fun e => e))
  have HN2 := Lib.hid ((HH.out.same HS0.out).same hk2)
  have HP0 := Lib.hid (PenW.mk' w2)
  clear hk2 hb
  go_wp2_with fail
  ((with_reducible refine (uint_w w2.heap.size [] 84 1 _ _ _ HP0.out (by simp) (by omega) (by omega) (by omega) (by omega) (by omega)).mono ?_); rintro e w3 ⟨rfl, hp3⟩)
  have HP3 := Lib.hid hp3
  have c3 := (HB2.out.keep HP3.out.same (fun e => e)).cell (i := 0) rfl
  clear hp3
  go_wp2_with fail
  ((with_reducible refine (uint_w w2.heap.size _ L 1 _ _ _ HP3.out (by simp [be_length]) (by omega) (by omega) (by omega) (by omega) (by omega)).mono ?_); rintro e w4 ⟨rfl, hp4⟩)
  have HP4 := Lib.hid hp4
  have c4 := (HB2.out.keep HP4.out.same (fun e => e)).cell (i := 0) rfl
  have d4 := (HB2.out.keep HP4.out.same (fun e => e)).cell (i := 2) rfl
  clear hp4 c3
  go_wp2_with fail
  ((with_reducible refine (uint_w w2.heap.size _ kn 1 _ _ _ HP4.out (by simp [be_length]) (by omega) (by omega) (by omega) (by omega) (by omega)).mono ?_); rintro e w5 ⟨rfl, hp5⟩)
  have HP5 : Hid (PenW w2 w5 w2.heap.size (hdB L kn ++ ((kks ks).take 0).flatMap codecK.enc)) := Lib.hid (by
    have e : hdB L kn ++ ((kks ks).take 0).flatMap codecK.enc = [] ++ be 84 1 ++ be L 1 ++ be kn 1 := by simp [hdB]
    rw [e]; exact hp5)
  have d5 := (HB2.out.keep hp5.same (fun e => e)).cell (i := 1) rfl
  have e5 := (HB2.out.keep hp5.same (fun e => e)).cell (i := 2) rfl
  clear hp5 c4 d4
  go_wp2
  refine wp_loop_rounds 1 ?_
  rw [rounds_succ]
  go_wp2
  go_loopw [60] (fun i wr => ∃ j : Nat, j ≤ kn ∧ i = .int .i64 j ∧ PenW w2 wr w2.heap.size (hdB L kn ++ ((kks ks).take j).flatMap codecK.enc)) (fun i _ => kn - (intOf i).toNat)
  case atStart => exact ⟨0, by omega, rfl, HP5.out⟩
  case round =>
    obtain ⟨j, hj, rfl, hpr⟩ := hrel
    have HPR := Lib.hid hpr
    clear hpr HP5 HP4 HP3 HP0 d5 e5
    by_cases hlt : j < kn
    · have hjl : j < ks.length := by have := HKL.out; omega
      obtain ⟨g, off, fO, fC, rfl, ef, hka⟩ := HN2.out.kids.at hjl
      have HRA : Hid (wr.rangeAt g (off + j * 33) ks[j].cells) := Lib.hid (range_same hka.ra HPR.out.same)
      have HLO : Hid (65535 < ks[j].fs.length → 470 < (nodeB (L : Int).toNat (kvs ps) (kks ks)).length) := Lib.hid (fun h => long_kid hjl h)
      have HST : Hid (((kks ks).take (j + 1)).flatMap codecK.enc = ((kks ks).take j).flatMap codecK.enc ++ (be ks[j].fs.length 2 ++ ks[j].fs ++ ks[j].hs)) := Lib.hid (by
        rw [flat_snoc _ _ _ (by rw [kks_length]; exact hjl)]
        simp only [kks, List.getElem_map]
        rfl)
      have HLN : Hid ((hdB L kn ++ ((kks ks).take j).flatMap codecK.enc).length ≤ 4000139) := Lib.hid (by
        rw [List.length_append, hdB_len]
        have := flatK_take ks (by rw [HKL.out]; exact hkl) HKS.out j
        omega)
      have HBK : Hid (Bytes w2 (.slice fO ks[j].fs.length fC) ks[j].fs) := Lib.hid (by rw [← ef]; exact hka.bf)
      have HHL := Lib.hid hka.hl
      have hkl2 := (HKS.out ks[j] (List.getElem_mem hjl)).2
      have HEF := Lib.hid ef
      generalize ks[j] = k at *
      have HAL := Lib.hid (kid_all k fO _ fC HEF.out)
      have HSZ : Hid ((Try.prog.info? 46).map (fun i => i.size) = some k.cells.length) := Lib.hid (Try.infoKid.trans (congrArg some (k.cells_length HHL.out).symm))
      have HSZ2 : Hid ((Try.prog.info? 46).map (fun i => i.size) = some k.cells.toArray.size) := Lib.hid (by simpa using HSZ.out)
      have HSE : Hid (kid0.toArray.size = k.cells.toArray.size) := Lib.hid (by simp [kid0_length, k.cells_length HHL.out])
      have HN1 : Hid ((wr.alloc (.cells kid0.toArray 46)).heap[wr.heap.size]? = some (.cells kid0.toArray 46 (0, 0))) := Lib.hid (heap_alloc_new wr _)
      obtain ⟨w1, hw1⟩ : ∃ w1, (wr.alloc (.cells kid0.toArray 46)).setRow wr.heap.size k.cells.toArray = w1 := ⟨_, rfl⟩
      have HW1 := Lib.hid hw1
      have hq1 : Whole w1 wr.heap.size 46 k.cells := by rw [← hw1]; exact Whole.row (cs := kid0) (heap_alloc_new wr _)
      have hs1 : Same wr w1 := by rw [← hw1]; exact ((Keeps.refl _ _).alloc _).setRow _ _ (.inl (Nat.le_refl _))
      have hz1 : wr.heap.size < w1.heap.size := hq1.lt
      have HQ1 := Lib.hid hq1
      have HS1 := Lib.hid hs1
      have c1 : w1.cell? ⟨wr.heap.size, 0, none⟩ = some (.slice fO k.fs.length fC) := by rw [← HEF.out]; exact hq1.cell rfl
      have hjn : (j : Int) < (kn : Int) := by omega
      clear hjl ef hka hw1 hq1 hs1
      by_cases hk1 : 65535 < k.fs.length
      · have HL := Lib.hid (HLO.out hk1)
        clear HLO
        go_wp2_with (first
          | (refine wpList_load_mid (by rfl) 46 _ (by rfl) g (off + j * 33) (by rfl) k.cells _ HRA.out Try.underlying46 rfl HSZ.out ?_)
          | (refine wpList_store_row (by rfl) 46 _ _ (by rfl) wr.heap.size k.cells.toArray (by rfl) (by rfl) 46 kid0.toArray HN1.out HSZ2.out HSE.out HAL.out ?_; rw [HW1.out]))
        ((with_reducible refine (text_long _ fO k.fs.length fC _ hk1).mono ?_); rintro e w6 ⟨rfl, hw6⟩)
        subst hw6
        go_wp2
        go_ret2
        exact WPost.long (HK.out.trans (HPR.out.same.trans HS1.out (fun _ _ e => e)) (fun _ _ e => e)) HR.out HL.out
      go_wp2_with (first
          | (refine wpList_load_mid (by rfl) 46 _ (by rfl) g (off + j * 33) (by rfl) k.cells _ HRA.out Try.underlying46 rfl HSZ.out ?_)
          | (refine wpList_store_row (by rfl) 46 _ _ (by rfl) wr.heap.size k.cells.toArray (by rfl) (by rfl) 46 kid0.toArray HN1.out HSZ2.out HSE.out HAL.out ?_; rw [HW1.out]))
      ((with_reducible refine (text_v w2.heap.size _ k.fs fO k.fs.length fC HPR.out HS1.out HBK.out (by omega) (by have := HLN.out; omega)).mono ?_); rintro e w6 ⟨rfl, hp6, hv6⟩)
      have hc6 : Whole w6 wr.heap.size 46 k.cells := (hv6 wr.heap.size (Nat.le_refl _) hz1).trans HQ1.out
      have HBH : Hid (∀ c, Bytes w6 (.slice (some ⟨wr.heap.size, 1, none⟩) 32 c) k.hs) := Lib.hid (fun c => by
        rw [← HHL.out]
        refine .inl ⟨_, c, rfl, fun q u hu => ?_⟩
        rw [add_at, Nat.add_comm 1 q]
        exact hc6.cell (by simpa [KidX.cells] using hu))
      have HP6 := Lib.hid hp6
      clear hp6 hv6 hc6 c1
      go_wp2_with fail
      ((with_reducible refine (raw_w w2.heap.size _ k.hs _ _ HP6.out (HBH.out _) (by have h := HLN.out; have h2 := HHL.out; simp only [List.length_append, be_length] at h ⊢; omega)).mono ?_); rintro e w7 ⟨rfl, hp7⟩)
      have HP7 : Hid (PenW w2 w7 w2.heap.size (hdB L kn ++ ((kks ks).take (j + 1)).flatMap codecK.enc)) := Lib.hid (by rw [HST.out, ← List.append_assoc, ← List.append_assoc]; simpa [List.append_assoc] using hp7)
      clear hp7 HP6
      go_wp2
      go_roundw
      case rel => exact ⟨j + 1, by omega, by go_num, HP7.out⟩
      case measure => simp [intOf]; omega
    · obtain rfl : j = kn := by omega
      have hle := flatK_take ks (by rw [HKL.out]; exact hkl) HKS.out j
      have hps := HKL.out
      have HNB : Hid (hdB L j ++ ((kks ks).take j).flatMap codecK.enc = nodeB (L : Int).toNat (kvs ps) (kks ks)) := Lib.hid (by
        rw [nodeB_hd, HPS.out, kks_length, HKL.out, List.take_of_length_le (by rw [kks_length, HKL.out]; exact Nat.le_refl _)]
        simp)
      have HLE : Hid ((nodeB (L : Int).toNat (kvs ps) (kks ks)).length ≤ 4000139) := Lib.hid (by rw [← HNB.out, List.length_append, hdB_len]; omega)
      have HP8 : Hid (PenW w2 wr w2.heap.size (nodeB (L : Int).toNat (kvs ps) (kks ks))) := Lib.hid (by rw [← HNB.out]; exact HPR.out)
      clear hle hps HPR
      go_wp2_with fail
      ((with_reducible refine (data_w w2.heap.size _ _ HP8.out (by have := HLE.out; omega)).mono ?_); rintro e w9 ⟨v, rfl, ho, hk9⟩)
      obtain ⟨vO, vC, rfl⟩ := (Bytes.of_own ho).form
      have HO := Lib.hid ho
      have HK9 := Lib.hid hk9
      have HK8 := Lib.hid (HK.out.trans HP8.out.same (fun _ _ e => e))
      clear ho hk9
      by_cases hl : (nodeB (L : Int).toNat (kvs ps) (kks ks)).length ≤ 470
      · have HL := Lib.hid hl
        generalize hN : (nodeB (L : Int).toNat (kvs ps) (kks ks)).length = n at *
        have hl2 : ¬ (470 : Int) < (n : Int) := by omega
        have HNN := Lib.hid hN
        clear hN hl
        go_wp2
        go_ret2
        exact WPost.yes HK8.out HK9.out HR.out (by rw [HNN.out]; exact HL.out) (by rw [HNN.out]; exact HO.out)
      · have HL := Lib.hid hl
        generalize hN : (nodeB (L : Int).toNat (kvs ps) (kks ks)).length = n at *
        have hl2 : (470 : Int) < (n : Int) := by omega
        have HNN := Lib.hid hN
        clear hN hl
        go_wp2
        go_ret2
        exact WPost.long (HK8.out.trans HK9.out (fun _ _ e => e)) HR.out (by rw [HNN.out]; have := HL.out; omega)

theorem nodeWrite_any (lv : Int) (po ko : Option Addr) (pn pc kn kc : Nat) (ps : List PairX) (ks : List KidX) (w : World) (h : NodeAt w po ko ps ks pc kc) (hp : ps.length = pn) (hk : ks.length = kn) (hps : psum ps ≤ 1000000) (hks : ∀ k ∈ ks, k.fs.length ≤ 1000000) (hkl : kn ≤ 1000000) :
    Calls Try.prog 10 #[nodeV lv po pn pc ko kn kc] w (WPost w lv (kvs ps) (kks ks)) := by
  by_cases hr : NRight lv (kvs ps) (kks ks)
  · obtain ⟨L, rfl⟩ : ∃ L : Nat, lv = (L : Int) := ⟨lv.toNat, by have := hr.1; omega⟩
    by_cases h0 : L = 0
    · subst h0
      have h1 : ks.length = 0 := by have := (hr.2.1 rfl).1; rw [← kks_length, this]; rfl
      have h2 : kn = 0 := by omega
      subst h2
      exact nodeWrite_leaf po ko pn pc kc ps ks w h hp hk hps hr
    · have h1 : ps.length = 0 := by have := (hr.2.2 (by omega)).1; rw [← kvs_length, this]; rfl
      have h2 : pn = 0 := by omega
      subst h2
      refine nodeWrite_inner L po ko pc kn kc ps ks w h hp hk (fun k hkm => ⟨?_, hks k hkm⟩) hr (by omega)
      obtain ⟨j, hj, rfl⟩ := List.getElem_of_mem hkm
      obtain ⟨_, _, _, _, _, _, hka⟩ := h.kids.at hj
      exact hka.hl
  · exact nodeWrite_no lv po ko pn pc kn kc ps ks w h hp hk (by have := psum_len ps; omega) hkl hr
end Go.Proofs.Ytdeajjppmgfemaa
