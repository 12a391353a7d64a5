/- Writes and Flushes of both disks, whatever is handed in. -/
import Derived.Test.YtoimhniijeafaaaDk28
namespace Go.Proofs.Ytoimhniijeafaaa
open Go.RowKit
set_option linter.unusedVariables false

/-- What a Write with so many bytes answers, and makes. -/
def DSt.acode (s : DSt) (i : Int) (n : Nat) : Int := if n = 512 then s.wcode i else if s.down = true then 3 else if 0 ≤ i ∧ i < (s.L.length : Int) then 1 else 2
def DSt.awrote (s : DSt) (i : Int) (bs : List UInt8) : DSt := if bs.length = 512 then s.wrote i bs else s

theorem dk_awrite (w : World) (F : Nat → Prop) (D : Nat) (s : DSt) (i : Int) (g n c : Nat) (bs : List UInt8) (h : Dk F w D s) (hx : w.rangeAt g 0 (u8s bs)) (hn : n = bs.length) (hfar : ¬ F g) (hO : s.O.length ≤ 100000) :
    Calls Try.prog 21 #[.pointer (some ⟨D, 0, none⟩), .int .i64 i, .slice (some ⟨g, 0, none⟩) n c] w fun e w' => ∃ F', e = .returned (.int .i64 (s.acode i n)) ∧ Dk F' w' D (s.awrote i bs) ∧ Keeps F w w' ∧ Grow F F' w := by
  by_cases h512 : n = 512
  · subst h512
    have e1 : s.acode i 512 = s.wcode i := by unfold DSt.acode; rw [if_pos rfl]
    have e2 : s.awrote i bs = s.wrote i bs := by unfold DSt.awrote; rw [if_pos hn.symm]
    rw [e1, e2]
    exact dk_write w F D s i g c bs h hx hn.symm hfar hO
  · have e2 : s.awrote i bs = s := by unfold DSt.awrote; rw [if_neg (by omega)]
    rw [e2]
    obtain ⟨lv, ov, hd, rfl⟩ := h
    by_cases hin : s.down = false ∧ 0 ≤ i ∧ i < (s.L.length : Int)
    · have e1 : s.acode i n = 1 := by unfold DSt.acode; rw [if_neg h512, if_neg (by simp [hin.1]), if_pos hin.2]
      rw [e1]
      exact (write_short w D lv ov s i (some ⟨g, 0, none⟩) n c hd hin h512).mono fun e w' ⟨he, hs⟩ => ⟨_, he, by subst hs; exact ⟨lv, ov, hd, rfl⟩, by subst hs; exact Keeps.refl _ _, fun k e => .inl e⟩
    · have e1 : s.acode i n = s.wcode i := by
        unfold DSt.acode DSt.wcode
        rw [if_neg h512]
        split
        · rfl
        · next hd2 => rw [if_neg (fun q => hin ⟨by simpa using hd2, q⟩), if_neg (fun q => hin ⟨by simpa using hd2, q⟩)]
      rw [e1]
      exact (write_out w D lv ov s i _ hd hin).mono fun e w' ⟨he, hs⟩ => ⟨_, he, by subst hs; exact ⟨lv, ov, hd, rfl⟩, by subst hs; exact Keeps.refl _ _, fun k e => .inl e⟩

set_option maxRecDepth 100000 in
set_option maxHeartbeats 3200000 in
theorem rk_refuse (w : World) (F : Nat → Prop) (D : Nat) (s : DSt) (i : Int) (ao : Option Addr) (n c : Nat) (h : Rk F w D s) (hno : ¬ (s.down = false ∧ (0 ≤ i ∧ i < (s.L.length : Int)) ∧ n = 512)) :
    Calls Try.prog 22 #[.pointer (some ⟨D, 0, none⟩), .int .i64 i, .slice ao n c] w fun e w' => e = .returned (.int .i64 (s.acode i n)) ∧ w' = w := by
  obtain ⟨lv, ov, L, O, h0, _, e1, e2⟩ := h
  obtain ⟨c0, c1, c2, c3⟩ := cell_of_four' h0.obj
  have hLl : s.L.length = L.length := by rw [← e1, List.length_map]
  obtain ⟨lo, lc, hlv⟩ : ∃ lo lc, lv = .slice lo L.length lc := by
    rcases h0.las.2 with ⟨e, h0⟩ | ⟨g, cp, cur, e, _⟩
    · exact ⟨none, 0, by rw [e, h0]⟩
    · exact ⟨_, cp, e⟩
  subst hlv
  rw [hLl] at hno
  cases hd : s.down with
  | true =>
    have hc : s.acode i n = 3 := by unfold DSt.acode DSt.wcode; simp [hd]
    rw [hc]
    rw [hd] at c3
    clear h0 e1 e2 hLl hno hd hc c0 c1 c2
    go_enter Try.func22, Try.ntmps22
    go_wp2
    go_ret
    exact ⟨rfl, rfl⟩
  | false =>
    rw [hd] at c3
    by_cases hin : 0 ≤ i ∧ i < (L.length : Int)
    · have h512 : ¬ n = 512 := fun e => hno ⟨hd, hin, e⟩
      have hc : s.acode i n = 1 := by unfold DSt.acode; rw [if_neg h512, if_neg (by simp [hd]), if_pos (by rw [hLl]; exact hin)]
      rw [hc]
      have q1 : ¬ i < 0 := by omega
      have q2 : ¬ i ≥ (L.length : Int) := by omega
      have q3 : ((n : Int) == 512) = false := by rw [beq_eq_false_iff_ne]; omega
      have q4 : ¬ (n : Int) = 512 := by omega
      clear h0 e1 e2 hLl hno hd hc c1 c2 hin h512
      go_enter Try.func22, Try.ntmps22
      go_wp2
      go_ret
      exact ⟨rfl, rfl⟩
    · have hc : s.acode i n = 2 := by
        unfold DSt.acode DSt.wcode
        split
        · rw [if_neg (by simp [hd]), if_neg (by rw [hLl]; exact hin)]
        · rw [if_neg (by simp [hd]), if_neg (by rw [hLl]; exact hin)]
      rw [hc]
      by_cases q : i < 0
      · clear h0 e1 e2 hLl hno hd hc c1 c2 hin
        go_enter Try.func22, Try.ntmps22
        go_wp2
        go_ret
        exact ⟨rfl, rfl⟩
      · have q2 : i ≥ (L.length : Int) := by
          by_cases q3 : i < (L.length : Int)
          · exact absurd ⟨by omega, q3⟩ hin
          · omega
        clear h0 e1 e2 hLl hno hd hc c1 c2 hin
        go_enter Try.func22, Try.ntmps22
        go_wp2
        go_ret
        exact ⟨rfl, rfl⟩

theorem rk_awrite (w : World) (F : Nat → Prop) (D : Nat) (s : DSt) (i : Int) (g n c : Nat) (bs : List UInt8) (h : Rk F w D s) (hlf : s.lim = true → 0 ≤ s.left ∧ s.left ≤ 9223372036854775807) (hx : Bytes w (.slice (some ⟨g, 0, none⟩) n c) bs) (hn : n = bs.length) (hfar : ¬ F g) (hO : s.O.length ≤ 100000) :
    Calls Try.prog 22 #[.pointer (some ⟨D, 0, none⟩), .int .i64 i, .slice (some ⟨g, 0, none⟩) n c] w fun e w' => ∃ F', e = .returned (.int .i64 (s.acode i n)) ∧ Rk F' w' D (s.awrote i bs) ∧ Keeps F w w' ∧ Grow F F' w := by
  by_cases hin : s.down = false ∧ (0 ≤ i ∧ i < (s.L.length : Int)) ∧ n = 512
  · obtain ⟨hd, hi, rfl⟩ := hin
    obtain ⟨m, rfl⟩ : ∃ m : Nat, i = (m : Int) := ⟨i.toNat, by omega⟩
    have e1 : s.acode (m : Int) 512 = if s.power = true then 0 else 3 := by unfold DSt.acode DSt.wcode; rw [if_pos rfl, if_neg (by simp [hd]), if_pos hi]
    have e2 : s.awrote (m : Int) bs = DSt.spent { s with O := s.O ++ [(m, bs)] } := by
      unfold DSt.awrote DSt.wrote
      rw [if_pos hn.symm, if_neg (by simp [hd]), if_pos hi]
      rfl
    rw [e1, e2]
    exact rk_write_in w F D s m (some ⟨g, 0, none⟩) c bs h hlf hd (by omega) hx hn.symm (fun a e => by cases e; exact hfar) hO
  · have e2 : s.awrote i bs = s := by
      unfold DSt.awrote
      split
      · next h5 =>
        unfold DSt.wrote
        split
        · rfl
        · next hd => rw [if_neg (fun q => hin ⟨by simpa using hd, q, by omega⟩)]
      · rfl
    rw [e2]
    exact (rk_refuse w F D s i _ n c h hin).mono fun e w' ⟨he, hs⟩ => ⟨F, he, by subst hs; exact h, by subst hs; exact Keeps.refl _ _, fun k e => .inl e⟩
theorem rk_flush (w : World) (F : Nat → Prop) (D : Nat) (s : DSt) (h : Rk F w D s) (hlf : s.lim = true → 0 ≤ s.left ∧ s.left ≤ 9223372036854775807) (hO : s.O.length ≤ 100000) :
    Calls Try.prog 15 #[.pointer (some ⟨D, 0, none⟩)] w fun e w' => ∃ F', e = .returned (.int .i64 s.fcode) ∧ Rk F' w' D s.flushed ∧ Keeps F w w' ∧ Grow F F' w := by
  by_cases hin : s.down = false ∧ s.power = true
  · exact rk_flush_yes w F D s h hlf hin.1 hin.2 hO
  · have hF : F D := by
      obtain ⟨lv, ov, L, O, _, rfl, _⟩ := h
      exact .inl rfl
    exact (rk_flush_no w F D s h hlf (by cases h1 : s.down <;> cases h2 : s.power <;> simp_all)).mono fun e w' ⟨he, hd, hk⟩ => ⟨F, he, hd, hk.mono (fun _ _ e => by rw [e]; exact hF), fun k e => .inl e⟩
end Go.Proofs.Ytoimhniijeafaaa
