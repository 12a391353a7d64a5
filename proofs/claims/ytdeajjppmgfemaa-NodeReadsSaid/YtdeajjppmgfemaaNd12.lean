/- great, speaks; the walk of NodeLevels. -/
import Derived.Test.YtdeajjppmgfemaaNd8
import Derived.Test.YtdeajjppmgfemaaNd11
import Derived.Test.YtdeajjppmgfemaaShape8
namespace Go.Proofs.Ytdeajjppmgfemaa
open Go.RowKit
set_option linter.unusedVariables false

def GreatN (w : World) (ps : List PairX) (ks : List KidX) (e : Ending) (w' : World) : Prop := ∃ b, e = .returned (.bool b) ∧ Same w w' ∧ (b = false → psum ps ≤ 8000 ∧ ks.length ≤ 300 ∧ ∀ k ∈ ks, k.fs.length ≤ 70000)
theorem GreatN.yes {w w' : World} {ps : List PairX} {ks : List KidX} (k : Same w w') : GreatN w ps ks (.returned (.bool true)) w' := ⟨true, rfl, k, fun e => by simp at e⟩

set_option maxRecDepth 100000 in
set_option maxHeartbeats 12800000 in
theorem great07 (lv : Int) (po ko : Option Addr) (pn pc kn kc : Nat) (ps : List PairX) (ks : List KidX) (w : World) (h : NodeAt w po ko ps ks pc kc) (hp : ps.length = pn) (hk : ks.length = kn) (hpm : pn ≤ 9223372036854775807) :
    Calls Try.prog 8 #[nodeV lv po pn pc ko kn kc] w (GreatN w ps ks) := by
  have hB : Whole (w.alloc (.cells #[.int .i64 lv, .slice po pn pc, .slice ko kn kc] 25)) w.heap.size 25 [.int .i64 lv, .slice po pn pc, .slice ko kn kc] := heap_alloc_new w _
  have HB := Lib.hid hB
  have HS0 : Hid (Same w (w.alloc (.cells #[.int .i64 lv, .slice po pn pc, .slice ko kn kc] 25))) := Lib.hid ((Keeps.refl _ _).alloc _)
  have HPL : Hid (ps.length = pn) := Lib.hid hp
  have HKL : Hid (ks.length = kn) := Lib.hid hk
  have HH := Lib.hid h
  have hzk := Try.zeroKid
  clear hB hp hk h
  go_enter Try.func8, Try.ntmps8
  go_wp2_with fail
  ((with_reducible refine (great_any po pn pc ps _ (HH.out.pairs.same HS0.out) HPL.out hpm).mono ?_); rintro e w2 ⟨b, rfl, ⟨m, rfl⟩, hb⟩)
  have HG := Lib.hid hb
  have HB2 := Lib.hid (HB.out.keep ((Keeps.refl (fun _ => False) _).drewN m) (fun e => e))
  have HS2 := Lib.hid (HS0.out.drewN m)
  obtain ⟨w2, hw2⟩ : ∃ w2, (w.alloc (.cells #[.int .i64 lv, .slice po pn pc, .slice ko kn kc] 25)).drewN m = w2 := ⟨_, rfl⟩
  rw [hw2] at HB2 HS2 ⊢
  have c2 := HB2.out.cell (i := 2) rfl
  clear hb hw2
  cases b with
  | true =>
    go_wp2
    go_ret
    exact GreatN.yes HS2.out
  | false =>
  have HG2 : Hid (psum ps + 4 * ps.length ≤ 8000) := Lib.hid (HG.out rfl)
  clear HG
  by_cases h300 : 300 < kn
  · have g3 : (300 : Int) < (kn : Int) := by omega
    go_wp2
    go_ret
    exact GreatN.yes HS2.out
  have g3 : ¬ (300 : Int) < (kn : Int) := by omega
  go_wp2
  clear c2
  go_loopw [17] (fun i wr => ∃ j : Nat, j ≤ kn ∧ i = .int .i64 j ∧ (∀ q, q < j → ∀ k, ks[q]? = some k → k.fs.length ≤ 70000) ∧ Same w2 wr) (fun i _ => kn - (intOf i).toNat)
  case atStart => exact ⟨0, by omega, rfl, fun q h => by omega, Keeps.refl _ _⟩
  case round =>
    obtain ⟨j, hj, rfl, hall, hs⟩ := hrel
    have HAL0 := Lib.hid hall
    have HS := Lib.hid hs
    clear hall hs
    by_cases hlt : j < kn
    · have hjl : j < ks.length := by have := HKL.out; omega
      obtain ⟨g, off, fO, fC, rfl, ef, hka⟩ := ((HH.out.kids.same HS2.out).same HS.out).at hjl
      have HEQ : Hid (ks[j]? = some ks[j]) := Lib.hid (List.getElem?_eq_getElem hjl)
      generalize ks[j] = k at *
      have HRA : Hid (wr.rangeAt g (off + j * 33) k.cells) := Lib.hid hka.ra
      have HHL := Lib.hid hka.hl
      have HEF := Lib.hid ef
      have HAL := Lib.hid (kid_all k fO _ fC HEF.out)
      have HSZ : Hid ((Try.prog.info? 46).map (fun i => i.size) = some k.cells.length) := Lib.hid (Try.infoKid.trans (congrArg some (k.cells_length HHL.out).symm))
      have HSZ2 : Hid ((Try.prog.info? 46).map (fun i => i.size) = some k.cells.toArray.size) := Lib.hid (by simpa using HSZ.out)
      have HSE : Hid (kid0.toArray.size = k.cells.toArray.size) := Lib.hid (by simp [kid0_length, k.cells_length HHL.out])
      have HN1 : Hid ((wr.alloc (.cells kid0.toArray 46)).heap[wr.heap.size]? = some (.cells kid0.toArray 46 (0, 0))) := Lib.hid (heap_alloc_new wr _)
      obtain ⟨w1, hw1⟩ : ∃ w1, (wr.alloc (.cells kid0.toArray 46)).setRow wr.heap.size k.cells.toArray = w1 := ⟨_, rfl⟩
      have HW1 := Lib.hid hw1
      have hq1 : Whole w1 wr.heap.size 46 k.cells := by rw [← hw1]; exact Whole.row (cs := kid0) (heap_alloc_new wr _)
      have hs1 : Same wr w1 := by rw [← hw1]; exact ((Keeps.refl _ _).alloc _).setRow _ _ (.inl (Nat.le_refl _))
      have HS1 := Lib.hid (HS.out.trans hs1 (fun _ _ e => e))
      have c1 : w1.cell? ⟨wr.heap.size, 0, none⟩ = some (.slice fO k.fs.length fC) := by rw [← HEF.out]; exact hq1.cell rfl
      have hjn : (j : Int) < (kn : Int) := by omega
      obtain ⟨fl, hfl⟩ : ∃ fl, k.fs.length = fl := ⟨_, rfl⟩
      rw [hfl] at c1
      have HFL := Lib.hid hfl
      clear hjl ef hka hw1 hq1 hs1 hfl
      by_cases hk1 : 70000 < fl
      · have g4 : (70000 : Int) < (fl : Int) := by omega
        go_wp2_with (first
          | (refine wpList_load_mid (by rfl) 46 _ (by rfl) g (off + j * 33) (by rfl) k.cells _ HRA.out Try.underlying46 rfl HSZ.out ?_)
          | (refine wpList_store_row (by rfl) 46 _ _ (by rfl) wr.heap.size k.cells.toArray (by rfl) (by rfl) 46 kid0.toArray HN1.out HSZ2.out HSE.out HAL.out ?_; rw [HW1.out]))
        go_ret
        exact GreatN.yes (HS2.out.trans HS1.out (fun _ _ e => e))
      · have g4 : ¬ (70000 : Int) < (fl : Int) := by omega
        have HK1 : Hid (k.fs.length ≤ 70000) := Lib.hid (by rw [HFL.out]; omega)
        go_wp2_with (first
          | (refine wpList_load_mid (by rfl) 46 _ (by rfl) g (off + j * 33) (by rfl) k.cells _ HRA.out Try.underlying46 rfl HSZ.out ?_)
          | (refine wpList_store_row (by rfl) 46 _ _ (by rfl) wr.heap.size k.cells.toArray (by rfl) (by rfl) 46 kid0.toArray HN1.out HSZ2.out HSE.out HAL.out ?_; rw [HW1.out]))
        go_roundw
        case rel =>
          refine ⟨j + 1, by omega, by go_num, fun q hq k' hk' => ?_, HS1.out⟩
          by_cases hqj : q = j
          · subst hqj
            rw [HEQ.out] at hk'
            rw [← Option.some.inj hk']
            exact HK1.out
          · exact HAL0.out q (by omega) k' hk'
        case measure => simp [intOf]; omega
    · obtain rfl : j = kn := by omega
      go_wp2
      go_ret
      refine ⟨false, rfl, HS2.out.trans HS.out (fun _ _ e => e), fun _ => ⟨by have := HG2.out; omega, by rw [HKL.out]; omega, fun k hk => ?_⟩⟩
      obtain ⟨q, hq, rfl⟩ := List.getElem_of_mem hk
      exact HAL0.out q (by rw [← HKL.out]; exact hq) _ (List.getElem?_eq_getElem hq)

theorem Reads.some' {w : World} {v : Value} {b : List UInt8} (h : Reads w v b) (h0 : b ≠ []) : ∃ a c, v = .slice (some a) b.length c ∧ Bytes w (.slice (some a) b.length c) b ∧ a.spot = none ∧ b.length ≤ c := by
  obtain ⟨ao, c, e, hb, hs, hc⟩ := h
  subst e
  rcases hb with ⟨a, c', e, hcl⟩ | ⟨c', e, e2⟩
  · simp only [Value.slice.injEq] at e
    obtain ⟨rfl, _, rfl⟩ := e
    exact ⟨a, c, rfl, .inl ⟨a, c, rfl, hcl⟩, hs a rfl h0, hc⟩
  · exact absurd e2 h0
theorem nodeB_ne (lv : Nat) (ps ks : List (List UInt8 × List UInt8)) : nodeB lv ps ks ≠ [] := fun e => by
  have := nodeB_len lv ps ks
  rw [e] at this
  simp at this
  omega
theorem fit_zero : NFit 0 [] [] := ⟨⟨by omega, fun _ => ⟨rfl, by simp, fun j a b h => by simp at h⟩, fun h => absurd rfl h⟩, fun k h => by simp at h, by rw [nodeB_len]; simp⟩
theorem nodeB_zero : nodeB 0 [] [] = [84, 0, 0] := by decide

set_option maxRecDepth 100000 in
set_option maxHeartbeats 12800000 in
theorem speaks07 (w : World) : Calls Try.prog 7 #[] w fun e w' => e = .returned (.bool true) ∧ Same w w' := by
  have HNZ : Hid (∀ w' po pc ko kc, NodeAt w' po ko [] [] pc kc) := Lib.hid (fun w' po pc ko kc => ⟨.inl rfl, .inl rfl, Nat.zero_le _, Nat.zero_le _⟩)
  have HN0 : Hid (∀ w', NodeAt w' none none [] [] 0 0) := Lib.hid (fun w' => ⟨.inl rfl, .inl rfl, Nat.le_refl _, Nat.le_refl _⟩)
  go_enter Try.func7, Try.ntmps7
  go_wp2_with fail
  ((with_reducible refine (nodeWrite_any 0 none none 0 0 0 0 [] [] _ (HN0.out _) rfl rfl (by simp [psum]) (fun k hk => by simp at hk) (by omega)).mono ?_); rintro e w1 ⟨hk1, v, b, er, rfl, hrd, hfr, hcs⟩)
  have hb : b = [84, 0, 0] ∧ er = 0 := by
    rcases hcs with ⟨_, _, h1, h2⟩ | ⟨_, h1, _, _⟩ | ⟨h1, _, _⟩
    · exact ⟨h1.trans nodeB_zero, h2⟩
    · have h3 := fit_zero.2.2
      have e1 : (kvs ([] : List PairX)) = [] := rfl
      have e2 : (kks ([] : List KidX)) = [] := rfl
      rw [e1, e2] at h1
      omega
    · exact absurd fit_zero.1 h1
  obtain ⟨rfl, rfl⟩ := hb
  obtain ⟨a, c, rfl, hby, hsp, hc⟩ := hrd.some' (by simp)
  have HK1 := Lib.hid hk1
  have HBY := Lib.hid hby
  have HSP := Lib.hid hsp
  have HRD := Lib.hid (nodeRead_any (some a) 3 c [84, 0, 0] w1 hby (fun x e _ => by rw [← Option.some.inj e]; exact hsp) rfl hc (fun e => by simp at e))
  clear hcs hfr hrd hk1 hby hsp hc
  go_wp2_with fail
  ((with_reducible refine HRD.out.mono ?_); rintro e w2 ⟨hk2, lv, po, pc, ko, kc, ps, ks, er, rfl, his, hat⟩)
  have hz : lv = 0 ∧ kvs ps = [] ∧ kks ks = [] ∧ er = 0 := by
    rcases his with ⟨hf, hb, he⟩ | ⟨hno, _⟩
    · obtain ⟨h1, h2, h3⟩ := node_inj hf fit_zero (hb.trans nodeB_zero.symm)
      exact ⟨h1, h2, h3, he⟩
    · exact absurd nodeB_zero (hno 0 [] [] fit_zero)
  obtain ⟨rfl, hkv, hkk, rfl⟩ := hz
  have hp0 : ps = [] := len_eq_nil.1 (by rw [← kvs_length, hkv]; rfl)
  have hk0 : ks = [] := len_eq_nil.1 (by rw [← kks_length, hkk]; rfl)
  subst hp0 hk0
  have HS3 : Hid (Same w (w2.alloc (.cells #[.int .i64 0, .slice po 0 pc, .slice ko 0 kc] 25))) := Lib.hid ((HK1.out.trans hk2 (fun _ _ e => e)).alloc _)
  have HBY3 : Hid (Bytes (w2.alloc (.cells #[.int .i64 0, .slice po 0 pc, .slice ko 0 kc] 25)) (.slice (some a) 3 c) [84, 0, 0]) := Lib.hid ((HBY.out.same hk2).same ((Keeps.refl _ _).alloc _))
  have k3 := bytes_str HBY3.out (fun x n d e _ => by simp only [Value.slice.injEq, Option.some.injEq] at e; rw [← e.1]; exact HSP.out)
  have z1 := str_list [84, 0, 0]
  have z2 : ({ data := #[84, 0, 0] } : ByteArray).toList = [84, 0, 0] := str_list [84, 0, 0]
  clear hkv hkk his hat hk2
  go_wp2_with fail
  ((with_reducible refine (sameNode_any 0 0 po ko none none 0 pc 0 kc 0 0 0 0 [] [] [] [] _ (HNZ.out _ _ _ _ _) (HNZ.out _ _ _ _ _) rfl rfl rfl rfl (by omega) (by omega)).mono ?_); rintro e w4 ⟨b, rfl, hk4, hb⟩)
  obtain rfl : b = true := hb.2 ⟨rfl, rfl, rfl⟩
  have HS4 := Lib.hid (HS3.out.trans hk4 (fun _ _ e => e))
  clear hk4 hb
  go_wp2
  go_ret
  exact ⟨rfl, HS4.out⟩
end Go.Proofs.Ytdeajjppmgfemaa
