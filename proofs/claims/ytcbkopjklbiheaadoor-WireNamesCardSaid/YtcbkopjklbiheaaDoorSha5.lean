/- (*Hasher).Add -/
import Derived.Test.YtcbkopjklbiheaaDoorSha4
namespace Go.Proofs.YtcbkopjklbiheaaDoor
open Go.RowKit
set_option linter.unusedVariables false

/-- The round numbers lie in block 0. -/
def Nums (w : World) : Prop := ∀ t, t < 64 → w.cell? ⟨0, t, none⟩ = some (.int .u32 (wn (roundKs.getD t 0)))
theorem Nums.keep {S : Nat → Prop} {w w' : World} (h : Nums w) (k : Keeps S w w') (h0 : ¬ S 0) : Nums w' := fun t ht =>
  (World.cell?_of_block (w := w) (a := ⟨0, t, none⟩) (k.block 0 (World.block_lt_of_cell? w _ (h t ht)) h0)).trans (h t ht)
theorem Bytes.cutAt {w : World} {ao : Option Addr} {n c : Nat} {bs : List UInt8} (h : Bytes w (.slice ao n c) bs) (hn : bs.length = n) (k : Nat) (hk : k ≤ n) (hc : n ≤ c) (m d : Nat) (hm : m = n - k) :
    Bytes w (.slice (if c = k then ao else Option.map (fun x => x.add k) ao) m d) (bs.drop k) := by
  subst hm
  have hl : (bs.drop k).length = n - k := by rw [List.length_drop, hn]
  by_cases e : c = k
  · have h0 : bs.drop k = [] := List.length_eq_zero_iff.1 (by omega)
    rw [h0, show n - k = 0 from by omega]
    exact Bytes.nil _ _ _
  · rw [if_neg e]
    rcases h with ⟨a, c', h1, hcell⟩ | ⟨c', h1, h2⟩
    · simp only [Value.slice.injEq] at h1
      obtain ⟨rfl, _, _⟩ := h1
      refine .inl ⟨_, d, by rw [hl]; rfl, fun j u hu => ?_⟩
      have e1 : (a.add k).add j = a.add (k + j) := by
        unfold Addr.add
        by_cases hk0 : k = 0 <;> by_cases hj0 : j = 0 <;> simp [hk0, hj0, Nat.add_assoc]
      rw [e1]
      refine hcell (k + j) u ?_
      rw [← hu]
      simp [u8s, List.getElem?_drop]
    · subst h2
      simp only [List.length_nil] at hn
      rw [show n - k = 0 from by omega]
      simp only [List.drop_nil]
      exact Bytes.nil _ _ _

def lenOf : Value → Nat
  | .slice _ n _ => n
  | _ => 0

set_option maxRecDepth 100000 in
set_option maxHeartbeats 12800000 in
theorem add_any (B : Nat) (h : HS) (bs : List UInt8) (ao : Option Addr) (L cap : Nat) (w : World) (hh : HasherAt w B h) (hN : Nums w) (hb : ∀ w', Keeps (fun k => k = B) w w' → Bytes w' (.slice ao L cap) bs) (hL : bs.length = L) (hc : L ≤ cap) (hcm : cap ≤ 9223372036854775807) (hs : h.n + L ≤ 1000000) :
    Calls Tryd.prog 55 #[.pointer (some ⟨B, 0, none⟩), .slice ao L cap] w fun e w' => e = .returned (.tuple #[]) ∧ HasherAt w' B (feed h bs) ∧ Keeps (fun k => k = B) w w' := by
  have HB := Lib.hid hb
  have HN := Lib.hid hN
  have HH := Lib.hid hh
  have HL := Lib.hid hL
  have hu : Tryd.prog.underlying 26 = some (.slice 5) := Tryd.underlying26
  have hsz : (Tryd.prog.info? 5).map (·.size) = some 1 := by kernel_rfl
  have HU := Lib.hid hu
  have HSZ := Lib.hid hsz
  clear hb hN hh hL hu hsz
  go_enter Tryd.func55, Tryd.ntmps55
  go_wp2
  go_loopw [1] (fun b wr => ∃ k : Nat, k ≤ L ∧ (∃ ao', b = .slice ao' (L - k) (cap - k) ∧ ∀ w', Keeps (fun k => k = B) w w' → Bytes w' (.slice ao' (L - k) (cap - k)) (bs.drop k)) ∧ HasherAt wr B (feed h (bs.take k)) ∧ Keeps (fun k => k = B) w wr) (fun b _ => lenOf b)
  case atStart => exact ⟨0, by omega, ⟨ao, rfl, by simpa using HB.out⟩, by simpa [feed] using HH.out, Keeps.refl _ _⟩
  case round =>
    obtain ⟨k, hk, ⟨ao', rfl, hby⟩, hha, hkw⟩ := hrel
    have HBY := Lib.hid hby
    have HHA := Lib.hid hha
    have HKW := Lib.hid hkw
    have hhn := (feed_len h (bs.take k)).2
    rw [List.length_take, HL.out, Nat.min_eq_left hk] at hhn
    have HHN := Lib.hid hhn
    clear hby hha hkw hhn
    obtain ⟨m, hm⟩ : ∃ m, L - k = m := ⟨_, rfl⟩
    obtain ⟨c', hc'⟩ : ∃ c', cap - k = c' := ⟨_, rfl⟩
    rw [hm, hc'] at HBY ⊢
    have HM := Lib.hid hm
    have HC' := Lib.hid hc'
    have hmc : m ≤ c' := by omega
    have hcm' : c' ≤ 9223372036854775807 := by omega
    have hml : m ≤ 1000000 := by omega
    clear hm hc'
    generalize hH : feed h (bs.take k) = H at *
    have HFH := Lib.hid hH
    clear hH
    by_cases hm0 : 0 < m
    · have hm1 : (0 : Int) < (m : Int) := by omega
      obtain ⟨p, hp⟩ : ∃ p, H.n % 64 = p := ⟨_, rfl⟩
      have hp64 : p < 64 := by omega
      have hHs := HHA.out.small
      obtain ⟨q, hq⟩ : ∃ q, min m (64 - p) = q := ⟨_, rfl⟩
      have hq1 : 1 ≤ q := by omega
      have hqm : q ≤ m := by omega
      have hqp : p + q ≤ 64 := by omega
      have hdl : (bs.drop k).length = m := by rw [List.length_drop, HL.out]; exact HM.out
      obtain ⟨w2, hrun, hwh, hk2⟩ := run_copy_whole (P := Tryd.prog) wr 26 26 3 5 B (8 + p) (64 - p) (64 - p) (.slice ao' m c') (bs.drop k) H.cells 126 HU.out HSZ.out HHA.out.whole (HBY.out wr HKW.out) (by rw [HS.cells, hcells_length _ _ _ HHA.out.len]; omega)
      rw [hdl, hq] at hrun hwh
      have hxl : ((bs.drop k).take q).length = q := by rw [List.length_take, hdl]; omega
      have hwh2 : Whole w2 B 126 (hcells H.s (H.ch.take p ++ (bs.drop k).take q ++ H.ch.drop (p + q)) H.n) := by
        have := hcells_splice H.s H.ch ((bs.drop k).take q) H.n p HHA.out.len (by rw [hxl]; omega)
        rw [hxl] at this
        rw [← this]; exact hwh
      have hchl : (H.ch.take p ++ (bs.drop k).take q ++ H.ch.drop (p + q)).length = 64 := by
        rw [List.length_append, List.length_append, hxl, List.length_take, List.length_drop, HHA.out.len]; omega
      have HFEED : Hid (feed h (bs.take (k + q)) = ⟨if p + q = 64 then mixed H.s (H.ch.take p ++ (bs.drop k).take q ++ H.ch.drop (p + q)) else H.s, H.ch.take p ++ (bs.drop k).take q ++ H.ch.drop (p + q), H.n + q⟩) := Lib.hid (by
        have e : bs.take (k + q) = bs.take k ++ (bs.drop k).take q := by rw [List.take_add]
        rw [e, feed_append, HFH.out]
        have := feed_run ((bs.drop k).take q) H HHA.out.len (by intro e0; rw [e0] at hxl; simp at hxl; omega) (by rw [hxl, hp]; omega)
        rw [hxl, hp] at this
        exact this)
      generalize (H.ch.take p ++ (bs.drop k).take q ++ H.ch.drop (p + q)) = ch2 at *
      have HRUN := Lib.hid hrun
      have HWH2 := Lib.hid hwh2
      have HK2 := Lib.hid hk2
      have HCHL := Lib.hid hchl
      have HP := Lib.hid hp
      have hc72 : w2.cell? ⟨B, 72, none⟩ = some (.int .u64 (H.n : Int)) := hwh2.cell (hcells_count _ _ _ hchl)
      have hf72 := hwh2.free 72
      have hnp : ¬ 64 = p := by omega
      obtain ⟨ad, had⟩ : ∃ ad, (if c' = q then ao' else Option.map (fun x => x.add q) ao') = ad := ⟨_, rfl⟩
      have HCUT : Hid (∀ w', Keeps (fun k => k = B) w w' → Bytes w' (.slice ad (m - q) (c' - q)) (bs.drop (k + q))) := Lib.hid fun w' hk' => by
        have := (HBY.out w' hk').cutAt hdl q hqm hmc (m - q) (c' - q) rfl
        rwa [had, List.drop_drop] at this
      clear hrun hwh hwh2 hk2 hchl hp hq hdl hxl
      have hpI : (0 : Int) ≤ (p : Int) := by omega
      have hpI2 : (p : Int) ≤ 64 := by omega
      have hqI : (q : Int) ≤ (m : Int) := by omega
      have HW3 : Hid (Whole (w2.setCell ⟨B, 72, none⟩ (.int .u64 ((H.n : Int) + (q : Int)))) B 126 (hcells H.s ch2 (H.n + q))) := Lib.hid (by
        have := HWH2.out.set 72 (.int .u64 ((H.n + q : Nat) : Int))
        rw [hcells_setcount _ _ _ _ HCHL.out, Int.natCast_add] at this
        exact this)
      have HK3 : Hid (Keeps (fun k => k = B) w (w2.setCell ⟨B, 72, none⟩ (.int .u64 ((H.n : Int) + (q : Int))))) := Lib.hid ((HKW.out.trans HK2.out (fun _ _ e => e)).setCell _ _ (.inr rfl))
      have HSM : Hid (H.n + q ≤ 1000000 ∧ k + q ≤ L ∧ L - (k + q) = m - q ∧ cap - (k + q) = c' - q) := Lib.hid (by have := HHN.out; have := HM.out; have := HC'.out; omega)
      by_cases h64 : p + q = 64
      · have hb64 : (((p : Int) + (q : Int)) == 64) = true := by rw [beq_iff_eq]; omega
        rw [if_pos h64] at HFEED
        go_wp2_with fail
        ((with_reducible refine (filled_any B H _ HHA.out).mono ?_); rintro e w1 ⟨rfl, hw1⟩; subst hw1)
        rw [HP.out]
        go_wp2_with ((refine Lib.wpList_copy_run _ (by rfl) _ _ 26 26 (by rfl) _ _ (by rfl) (by rfl) HRUN.out ?_))
        go_still_tail 6, (by kernel_rfl)
        change wpList _ _ _ _ _ (World.drew (w2.setCell ⟨B, 72, none⟩ (.int .u64 ((H.n : Int) + (q : Int)))))
        clear hc72 hf72
        obtain ⟨w3, hw3⟩ : ∃ w3, World.drew (w2.setCell ⟨B, 72, none⟩ (.int .u64 ((H.n : Int) + (q : Int)))) = w3 := ⟨_, rfl⟩
        rw [hw3]
        have HW4 : Hid (Whole w3 B 126 (hcells H.s ch2 (H.n + q))) := Lib.hid (by rw [← hw3]; exact HW3.out)
        have HK4 : Hid (Keeps (fun k => k = B) w w3) := Lib.hid (by rw [← hw3]; exact HK3.out.drew)
        have HNN : Hid (∀ t, t < 64 → w3.cell? ⟨0, t, none⟩ = some (.int .u32 (wn (roundKs.getD t 0)))) := Lib.hid (HN.out.keep HK4.out (by have := HHA.out.pos; omega))
        clear hw3
        go_wp2_with fail
        ((with_reducible refine (mix_any B (H.n + q) H.s ch2 _ HW4.out HCHL.out HHA.out.pos HNN.out).mono ?_); rintro e w5 ⟨rfl, hw5, hk5⟩)
        have HW5 := Lib.hid hw5
        have HK5 := Lib.hid hk5
        clear hw5 hk5
        go_wp2
        go_roundw
        case rel => exact ⟨k + q, HSM.out.2.1, ⟨ad, by rw [HSM.out.2.2.1, HSM.out.2.2.2], by rw [HSM.out.2.2.1, HSM.out.2.2.2]; exact HCUT.out⟩, by rw [HFEED.out]; exact ⟨HW5.out, HCHL.out, HSM.out.1, HHA.out.pos⟩, HK4.out.trans HK5.out (fun _ _ e => e)⟩
        case measure => simp [lenOf]; omega
      · have hb64 : (((p : Int) + (q : Int)) == 64) = false := beq_false_of_ne (by omega)
        rw [if_neg h64] at HFEED
        go_wp2_with fail
        ((with_reducible refine (filled_any B H _ HHA.out).mono ?_); rintro e w1 ⟨rfl, hw1⟩; subst hw1)
        rw [HP.out]
        go_wp2_with ((refine Lib.wpList_copy_run _ (by rfl) _ _ 26 26 (by rfl) _ _ (by rfl) (by rfl) HRUN.out ?_))
        go_roundw
        case rel => exact ⟨k + q, HSM.out.2.1, ⟨ad, by rw [HSM.out.2.2.1, HSM.out.2.2.2], by rw [HSM.out.2.2.1, HSM.out.2.2.2]; exact HCUT.out⟩, by rw [HFEED.out]; exact ⟨HW3.out, HCHL.out, HSM.out.1, HHA.out.pos⟩, HK3.out⟩
        case measure => simp [lenOf]; omega
    · obtain rfl : m = 0 := by omega
      have hkL : k = L := by have := HM.out; omega
      subst hkL
      have hfin : feed h bs = H := by
        have := HFH.out
        rwa [List.take_of_length_le (by rw [HL.out]; omega)] at this
      have HFIN := Lib.hid hfin
      clear hfin
      go_wp2
      go_end0
      exact ⟨rfl, by rw [HFIN.out]; exact HHA.out, HKW.out⟩

end Go.Proofs.YtcbkopjklbiheaaDoor
