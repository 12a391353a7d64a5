/- Great of messages. -/
import Derived.Test.YtafgiljgefeefaaDoorWm7
import Derived.Test.YtafgiljgefeefaaDoorSame10
import Derived.Test.YtafgiljgefeefaaDoorRw
namespace Go.Proofs.YtafgiljgefeefaaDoor
open Go.RowKit
set_option linter.unusedVariables false

/-- What Great of a message tells. -/
def GreatM (w : World) (m : Msg) (e : Ending) (w' : World) : Prop := ∃ b, e = .returned (.bool b) ∧ Same w w' ∧ (b = false → m.ad.length ≤ 1000 ∧ m.ns.length ≤ 100 ∧ m.hs.length ≤ 100 ∧ m.bs.length ≤ 4000 ∧ (∀ r ∈ m.bs, r.2.length ≤ 40000) ∧ m.p.size ≤ 400 ∧ m.q.size ≤ 400 ∧ m.od.length ≤ 400)
theorem GreatM.yes {w w' : World} {m : Msg} (k : Same w w') : GreatM w m (.returned (.bool true)) w' := ⟨true, rfl, k, fun e => by cases e⟩

set_option maxRecDepth 100000 in
set_option maxHeartbeats 12800000 in
theorem greatMsg_any (m : Msg) (w : World) (h : MsgIn w m) : Calls Tryd.prog 8 #[.agg m.cells.toArray] w (GreatM w m) := by
  have HM := Lib.hid h
  obtain ⟨w1, hw1⟩ : ∃ w1, w.alloc (.cells m.cells.toArray 45) = w1 := ⟨_, rfl⟩
  have HB : Hid (MsgAt w1 w.heap.size m) := Lib.hid (by rw [← hw1]; exact MsgAt.new w m h.hd)
  have HK : Hid (Same w w1) := Lib.hid (by rw [← hw1]; exact (Keeps.refl _ _).alloc _)
  have HROW : Hid (Rows2 w1 (.slice m.bo m.bs.length m.bcap) m.bs) := Lib.hid (h.bs.same HK.out)
  have c49 : w1.cell? ⟨w.heap.size, 49, none⟩ = some (.slice m.ao m.ad.length m.acap) := HB.out.high 10 49 _ rfl rfl
  have c50 : w1.cell? ⟨w.heap.size, 50, none⟩ = some (.slice m.no m.ns.length m.ncap) := HB.out.high 11 50 _ rfl rfl
  have c51 : w1.cell? ⟨w.heap.size, 51, none⟩ = some (.slice m.ho m.hs.length m.hcap) := HB.out.high 12 51 _ rfl rfl
  have c52 : w1.cell? ⟨w.heap.size, 52, none⟩ = some (.slice m.bo m.bs.length m.bcap) := HB.out.high 13 52 _ rfl rfl
  obtain ⟨bg, hbg⟩ : ∃ b, decide (400 < m.p.size ∨ 400 < m.q.size ∨ 400 < m.od.length) = b := ⟨_, rfl⟩
  have HBG : Hid (bg = false → m.p.size ≤ 400 ∧ m.q.size ≤ 400 ∧ m.od.length ≤ 400) := Lib.hid (fun e => by
    rw [e] at hbg
    have := of_decide_eq_false hbg
    omega)
  have HGO : Hid (∀ w, Calls Tryd.prog 20 #[.agg m.op.toArray] w fun e w' => e = .returned (.bool bg) ∧ Same w w') := Lib.hid (fun w => hbg ▸ great_op m.ok m.off m.on m.p m.q m.oo m.od.length m.oc w)
  obtain ⟨an, han⟩ : ∃ n, m.ad.length = n := ⟨_, rfl⟩
  obtain ⟨nn, hnn⟩ : ∃ n, m.ns.length = n := ⟨_, rfl⟩
  obtain ⟨hn, hhn⟩ : ∃ n, m.hs.length = n := ⟨_, rfl⟩
  obtain ⟨bn, hbn⟩ : ∃ n, m.bs.length = n := ⟨_, rfl⟩
  obtain ⟨bo, hbo⟩ : ∃ n, m.bo = n := ⟨_, rfl⟩
  have HL : Hid (m.ad.length = an ∧ m.ns.length = nn ∧ m.hs.length = hn ∧ m.bs.length = bn) := Lib.hid ⟨han, hnn, hhn, hbn⟩
  have hbl : bn ≤ 9223372036854775807 := by rw [← hbn]; have := h.cp; omega
  rw [han] at c49
  rw [hnn] at c50
  rw [hhn] at c51
  rw [hbn, hbo] at c52 HROW
  clear h han hnn hhn hbn hbo hbg
  by_cases q1 : (1000 : Int) < (an : Int)
  · go_enter Tryd.func8, Tryd.ntmps8
    go_wp2
    go_ret
    exact GreatM.yes HK.out
  by_cases q2 : (100 : Int) < (nn : Int)
  · go_enter Tryd.func8, Tryd.ntmps8
    go_wp2
    go_ret
    exact GreatM.yes HK.out
  by_cases q3 : (100 : Int) < (hn : Int)
  · go_enter Tryd.func8, Tryd.ntmps8
    go_wp2
    go_ret
    exact GreatM.yes HK.out
  obtain ⟨s0, hs0⟩ : ∃ s : Nat, s = an + 10 * nn + 32 * hn := ⟨_, rfl⟩
  have hsum : (an : Int) + 10 * (nn : Int) + 32 * (hn : Int) = (s0 : Int) := by omega
  have hs1 : s0 ≤ 5200 := by omega
  have HQ : Hid (an ≤ 1000 ∧ nn ≤ 100 ∧ hn ≤ 100) := Lib.hid (by omega)
  clear hs0
  go_enter Tryd.func8, Tryd.ntmps8
  go_wp2
  clear c49 c50 c51
  go_loopw [3, 4] (fun nv i wr => wr = w1 ∧ ∃ j N : Nat, j ≤ bn ∧ nv = .int .i64 N ∧ i = .int .i64 j ∧ 10 * j ≤ N ∧ N ≤ 80010 ∧ Hid (∀ b ∈ m.bs.take j, b.2.length ≤ 40000)) (fun _ i _ => bn - (intOf i).toNat)
  case atStart => exact ⟨rfl, 0, s0, by omega, by go_num, rfl, by omega, by omega, Lib.hid (fun b h => by simp at h)⟩
  case round =>
    obtain ⟨rfl, j, N, hj, rfl, rfl, hN1, hN2, HT⟩ := hrel
    by_cases hlt : j < bn
    · have hjn : (j : Int) < (bn : Int) := by omega
      by_cases hN : (N : Int) ≤ 40000
      · have hjl : j < m.bs.length := by rw [HL.out.2.2.2]; exact hlt
        obtain ⟨a, xo, xc, rfl, hx, hc, -⟩ := HROW.out.at hjl
        have HGE : Hid (m.bs[j]? = some m.bs[j]) := Lib.hid (List.getElem?_eq_getElem hjl)
        generalize m.bs[j] = r at hc HGE hx
        obtain ⟨rv, rl⟩ := r
        simp only at hc
        obtain ⟨k, hk⟩ : ∃ k, rl.length = k := ⟨_, rfl⟩
        have HRL := Lib.hid hk
        simp only [hk] at hc
        have HMEM : Hid (m.bs.take (j + 1) = m.bs.take j ++ [(rv, rl)]) := Lib.hid (by rw [List.take_add_one, HGE.out]; rfl)
        clear hjl hk hx
        by_cases hb : (40000 : Int) < (k : Int)
        · go_wp2
          go_ret
          exact GreatM.yes HK.out
        · go_wp2
          go_roundw
          case rel => exact ⟨by trivial, j + 1, N + (k + 10), by omega, by go_num, by go_num, by omega, by omega, Lib.hid (by
            rw [HMEM.out]
            intro b hbm
            rcases List.mem_append.1 hbm with h | h
            · exact HT.out b h
            · simp only [List.mem_singleton] at h; subst h; have := HRL.out; simp only; omega)⟩
          case measure => simp [intOf]; omega
      · have hN3 : (40000 : Int) < (N : Int) := by omega
        go_wp2
        go_ret
        exact GreatM.yes HK.out
    · obtain rfl : j = bn := by omega
      have hjn : ¬ (j : Int) < (j : Int) := by omega
      by_cases hN : (40000 : Int) < (N : Int)
      · go_wp2
        go_ret
        exact GreatM.yes HK.out
      have HALL : Hid (∀ b ∈ m.bs, b.2.length ≤ 40000) := Lib.hid (by
        have := HT.out
        rwa [List.take_of_length_le (by rw [HL.out.2.2.2]; exact Nat.le_refl _)] at this)
      have HJ : Hid (j ≤ 4000) := Lib.hid (by omega)
      go_wp2_with (refine wpList_load_mid_w (by rfl) 35 _ (by rfl) w.heap.size 41 (by rfl) m.op _ HB.out.opR Tryd.underlying35 rfl (by exact Tryd.sizeOpW) ?_)
      ((with_reducible refine (HGO.out _).mono ?_); rintro e w3 ⟨rfl, hk3⟩)
      have HK3 := Lib.hid (HK.out.trans hk3 (fun _ _ e => e))
      clear hk3
      go_wp2
      go_ret
      refine ⟨_, rfl, HK3.out, fun e => ?_⟩
      have h1 := HL.out
      have h2 := HQ.out
      have h3 := HJ.out
      exact ⟨by omega, by omega, by omega, by omega, HALL.out, HBG.out e⟩
end Go.Proofs.YtafgiljgefeefaaDoor
