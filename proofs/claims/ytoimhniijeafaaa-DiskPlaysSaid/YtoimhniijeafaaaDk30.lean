/- same: both disks read alike. -/
import Derived.Test.YtoimhniijeafaaaDk29
namespace Go.Proofs.Ytoimhniijeafaaa
open Go.RowKit
set_option linter.unusedVariables false

theorem own_form {w : World} {base : Nat} {e : TypeId} {v : Value} {n : Nat} {xs : List Value} (h : w.ownsRow base e 1 v n xs) : ∃ ao c, v = .slice ao n c ∧ (0 < n → ∃ g, ao = some ⟨g, 0, none⟩) := by
  rcases h.2 with ⟨e, h0⟩ | ⟨g, cp, cur, e, _⟩
  · exact ⟨none, 0, by rw [e, h0], fun h => by omega⟩
  · exact ⟨_, cp, e, fun _ => ⟨g, rfl⟩⟩
theorem spoil_any (w : World) (base : Nat) (v : Value) (bs : List UInt8) (h : w.ownsRow base 5 1 v bs.length (u8s bs)) (hn : bs.length ≤ 100000) :
    Calls Try.prog 23 #[v] w fun e w' => (∃ v, e = .returned v) ∧ Keeps (fun k => v.ownBlock = some k) w w' := by
  obtain ⟨ao, c, rfl, hg⟩ := own_form h
  by_cases h0 : 0 < bs.length
  · obtain ⟨g, rfl⟩ := hg h0
    exact (spoil_ok w base bs.length g c bs h hn).mono fun e w' ⟨he, hk⟩ => ⟨he, hk.mono (fun k _ e => by rw [e]; rfl)⟩
  · have h1 : bs.length = 0 := by omega
    rw [h1]
    exact (spoil_nil w ao c).mono fun e w' ⟨he, hw⟩ => ⟨he, by subst hw; exact Keeps.refl _ _⟩
theorem seen_len' {F : Nat → Prop} {w : World} {D : Nat} {s : DSt} (h : Dk F w D s) (i : Int) : (s.seen i).length ≤ 512 := by
  obtain ⟨lv, ov, h, _⟩ := h
  unfold DSt.seen
  split
  · next hin => rw [h.seen_len (by have := hin.2; omega)]; exact Nat.le_refl _
  · simp

set_option maxRecDepth 100000 in
set_option maxHeartbeats 6400000 in
theorem same_ok (w : World) (F G : Nat → Prop) (D M : Nat) (s : DSt) (hd : Dk F w D s) (hr : Rk G w M s) (hO : s.O.length ≤ 100000) :
    Calls Try.prog 20 #[.pointer (some ⟨D, 0, none⟩), .pointer (some ⟨M, 0, none⟩)] w fun e w' => e = .returned (.bool true) ∧ Same w w' := by
  have HD0 := Lib.hid hd
  have HR0 := Lib.hid hr
  have HOO := Lib.hid hO
  obtain ⟨lv, ov, L, O, h0, _, e1, e2⟩ := hr
  obtain ⟨lo, lc, hlv, _⟩ := own_form h0.las
  obtain ⟨N, hN⟩ : ∃ N, L.length = N := ⟨_, rfl⟩
  rw [hN] at hlv
  subst hlv
  have HLN : Hid (s.L.length = N) := Lib.hid (by rw [← e1, List.length_map]; exact hN)
  have hN2 : N ≤ 4096 := by have := h0.few; omega
  have HC0 : Hid (∀ w', Same w w' → w'.cell? ⟨M, 0, none⟩ = some (.slice lo N lc)) := Lib.hid (fun w' k => (h0.obj.keep k (fun e => e)).cell (i := 0) rfl)
  clear hd hO h0 e1 e2 hN
  go_enter Try.func20, Try.ntmps20
  go_wp2
  go_loopw [5] (fun i wr => ∃ k : Nat, k ≤ N + 2 ∧ i = .int .i64 ((k : Int) - 1) ∧ Same w wr) (fun i _ => N + 2 - (intOf i + 1).toNat)
  case atStart => exact ⟨0, by omega, rfl, Keeps.refl _ _⟩
  case round =>
    obtain ⟨k, hk, rfl, hs⟩ := hrel
    have HS := Lib.hid hs
    have HD := Lib.hid (HD0.out.same hs)
    have HR := Lib.hid (HR0.out.same hs)
    have c0 := HC0.out _ hs
    have HCL : Hid (∀ w', Same wr w' → w'.cell? ⟨M, 0, none⟩ = some (.slice lo N lc)) := Lib.hid (fun w' kk => HC0.out w' (HS.out.trans kk (fun _ _ e => e)))
    clear hs
    by_cases hlt : (k : Int) - 1 ≤ (N : Int)
    · obtain ⟨z, hz⟩ : ∃ z, (k : Int) - 1 = z := ⟨_, rfl⟩
      rw [hz]
      rw [hz] at hlt
      have HSL := Lib.hid (seen_len' HD.out z)
      obtain ⟨rc, hrc⟩ : ∃ rc, s.rcode z = rc := ⟨_, rfl⟩
      obtain ⟨SB, hSB⟩ : ∃ SB, s.seen z = SB := ⟨_, rfl⟩
      have HRC := Lib.hid hrc
      have HSB := Lib.hid hSB
      rw [hSB] at HSL
      clear hrc hSB
      go_wp2_with fail
      (refine (dk_read wr F D s z HD.out HOO.out).mono ?_); rintro e w1 ⟨va, rfl, ho, hk1⟩
      rw [HSB.out] at ho
      rw [HRC.out]
      have HOA := Lib.hid ho
      have HK1 := Lib.hid hk1
      have HR1 := Lib.hid (HR.out.same hk1)
      clear ho hk1
      go_wp2_with fail
      (refine (rk_read w1 G M s z HR1.out HOO.out).mono ?_); rintro e w2 ⟨vb, rfl, ho, hk2⟩
      rw [HSB.out] at ho
      rw [HRC.out]
      have ka := run_reads (Reads.of_own (own_keeps hk2 HOA.out (fun _ _ e => e)) rfl)
      have kb := run_reads (Reads.of_own ho rfl)
      have HOA2 := Lib.hid (own_keeps hk2 HOA.out (fun _ _ e => e))
      have HK2 : Hid (Same wr w2) := Lib.hid (HK1.out.trans hk2 (fun _ _ e => e))
      clear ho hk2
      go_wp2_with fail
      (refine (spoil_any w2 wr.heap.size va SB HOA2.out (by have := HSL.out; omega)).mono ?_); rintro e w3 ⟨⟨vs, rfl⟩, hk3⟩
      have HK3 : Hid (Same w w3) := Lib.hid (HS.out.trans (HK2.out.trans hk3 (fun j hj e => by have := (HOA2.out.lt j e).1; omega)) (fun _ _ e => e))
      clear hk3
      have hzb : -1 ≤ z ∧ z ≤ 4096 := by omega
      have hze := hz
      clear ka kb
      go_wp2
      go_roundw
      case rel => exact ⟨k + 1, by omega, by go_num, HK3.out⟩
      case measure => simp [intOf]; omega
    · have hlt2 : ¬ (k : Int) - 1 ≤ (N : Int) := hlt
      go_wp2_with fail
      refine wp_region_do [[], [0], [], [2], [3], [4], [5], [1, 6], [7, 1, 0, 1, 2, 3, 4, 5, 6, 7]]
        [some 43, some 44, some 45, some 46, some 47, some 48, some 49, some 50, some 4]
        [.is (.pointer (some ⟨D, 0, none⟩)), .is (.int .i64 (s.L.length : Nat)), .is (.pointer (some ⟨M, 0, none⟩)), .is (.pointer (some ⟨M, 0, none⟩)), .is (.pointer (some ⟨M, 0, none⟩)), .is (.slice lo N lc), .is (.int .i64 (N : Nat)), .is (.bool true), .is (.bool true)]
        9 _ _ 51 9 (by kernel_rfl) (by rfl) (by rfl) (by kernel_rfl) (by kernel_rfl) (by decide) ?_ ?_
      · refine ⟨?_, ?_, ?_, ?_, ?_, ?_, ?_, ?_, ?_, trivial⟩
        · intro a w' K hs' hdep hfr hK
          have f := hfr 0 (by decide)
          exact plan_do (by rfl) (plan_yield (i := 0) (V := fun _ _ v => v = (.pointer (some ⟨D, 0, none⟩) : Value)) (.pointer (some ⟨D, 0, none⟩)) (by go_simp) rfl hK)
        · intro a w' K hs' hdep hfr hK
          have e43 : a.tmps[43]?.getD undef = (.pointer (some ⟨D, 0, none⟩)) := hdep 0 (by decide) 43 rfl
          refine plan_do (by rfl) (plan_call 25 #[.pointer (some ⟨D, 0, none⟩)] (by go_simp) ?_)
          exact (dk_sectors w' F D s (HD.out.same hs')).mono fun e w'' ⟨he, hw⟩ => ⟨_, he, hK _ _ (by subst hw; exact Keeps.refl _ _) rfl⟩
        · intro a w' K hs' hdep hfr hK
          have f := hfr 1 (by decide)
          exact plan_do (by rfl) (plan_yield (i := 2) (V := fun _ _ v => v = (.pointer (some ⟨M, 0, none⟩) : Value)) (.pointer (some ⟨M, 0, none⟩)) (by go_simp) rfl hK)
        · intro a w' K hs' hdep hfr hK
          have e45 : a.tmps[45]?.getD undef = (.pointer (some ⟨M, 0, none⟩)) := hdep 2 (by decide) 45 rfl
          exact plan_do (by rfl) (plan_yield (i := 3) (V := fun _ _ v => v = (.pointer (some ⟨M, 0, none⟩) : Value)) (.pointer (some ⟨M, 0, none⟩)) (by go_simp) rfl hK)
        · intro a w' K hs' hdep hfr hK
          have e46 : a.tmps[46]?.getD undef = (.pointer (some ⟨M, 0, none⟩)) := hdep 3 (by decide) 46 rfl
          exact plan_do (by rfl) (plan_yield (i := 4) (V := fun _ _ v => v = (.pointer (some ⟨M, 0, none⟩) : Value)) (.pointer (some ⟨M, 0, none⟩)) (by go_simp) rfl hK)
        · intro a w' K hs' hdep hfr hK
          have e47 : a.tmps[47]?.getD undef = (.pointer (some ⟨M, 0, none⟩)) := hdep 4 (by decide) 47 rfl
          have cl := HCL.out w' hs'
          exact plan_do (by rfl) (plan_yield (i := 5) (V := fun _ _ v => v = (.slice lo N lc : Value)) (.slice lo N lc) (by go_simp) rfl hK)
        · intro a w' K hs' hdep hfr hK
          have e48 : a.tmps[48]?.getD undef = (.slice lo N lc) := hdep 5 (by decide) 48 rfl
          exact plan_do (by rfl) (plan_yield (i := 6) (V := fun _ _ v => v = (.int .i64 (N : Nat) : Value)) (.int .i64 (N : Nat)) (by go_simp) rfl hK)
        · intro a w' K hs' hdep hfr hK
          have e44 : a.tmps[44]?.getD undef = (.int .i64 (s.L.length : Nat)) := hdep 1 (by decide) 44 rfl
          have e49 : a.tmps[49]?.getD undef = (.int .i64 (N : Nat)) := hdep 6 (by decide) 49 rfl
          have hln := HLN.out
          exact plan_do (by rfl) (plan_yield (i := 7) (V := fun _ _ v => v = (.bool true : Value)) (.bool true) (by go_simp) rfl hK)
        · intro a w' K hs' hdep hfr hK
          have e50 : a.tmps[50]?.getD undef = (.bool true) := hdep 7 (by decide) 50 rfl
          have e44 : a.tmps[44]?.getD undef = (.int .i64 (s.L.length : Nat)) := hdep 1 (by decide) 44 rfl
          have e43 : a.tmps[43]?.getD undef = (.pointer (some ⟨D, 0, none⟩)) := hdep 0 (by decide) 43 rfl
          have e45 : a.tmps[45]?.getD undef = (.pointer (some ⟨M, 0, none⟩)) := hdep 2 (by decide) 45 rfl
          have e46 : a.tmps[46]?.getD undef = (.pointer (some ⟨M, 0, none⟩)) := hdep 3 (by decide) 46 rfl
          have e47 : a.tmps[47]?.getD undef = (.pointer (some ⟨M, 0, none⟩)) := hdep 4 (by decide) 47 rfl
          have e48 : a.tmps[48]?.getD undef = (.slice lo N lc) := hdep 5 (by decide) 48 rfl
          have e49 : a.tmps[49]?.getD undef = (.int .i64 (N : Nat)) := hdep 6 (by decide) 49 rfl
          exact plan_do (by rfl) (plan_yield (i := 8) (V := fun _ _ v => v = (.bool true : Value)) (.bool true) (by go_simp) rfl hK)
      intro a w9 hk9 hdef hsz hv hfr
      have eL : a.tmps[4]?.getD undef = .bool true := hv 8 4 rfl
      go_wp2
      refine bodyPost_ret (results_tmp (t := 4) rfl _ _ _) hdef ⟨?_, HS.out.trans hk9 (fun _ _ e => e)⟩
      rw [Array.getD_eq_getD_getElem?, eL]
end Go.Proofs.Ytoimhniijeafaaa
