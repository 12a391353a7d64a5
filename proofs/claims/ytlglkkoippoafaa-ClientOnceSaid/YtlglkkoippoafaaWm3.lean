/- Whether a message is right: wire.rightAnswer, wire.Check. -/
import Derived.Test.YtlglkkoippoafaaWm2
import Derived.Test.YtlglkkoippoafaaLrow
namespace Go.Proofs.Ytlglkkoippoafaa
open Go.RowKit
set_option linter.unusedVariables false

set_option maxRecDepth 100000 in
set_option maxHeartbeats 6400000 in
theorem rightAns_any (m : Msg) (w : World) (h : MsgIn w m) : Calls Try.prog 37 #[.agg m.cells.toArray] w (BoolPost w m.AnsOk) := by
  have HA := Lib.hid h.ad
  have HS := Lib.hid h.ns
  obtain ⟨w1, hw1⟩ : ∃ w1, w.alloc (.cells m.cells.toArray 45) = w1 := ⟨_, rfl⟩
  have HB : Hid (MsgAt w1 w.heap.size m) := Lib.hid (by rw [← hw1]; exact MsgAt.new w m h.hd)
  have HK : Hid (Same w w1) := Lib.hid (by rw [← hw1]; exact (Keeps.refl _ _).alloc _)
  have HC : Hid (m.AnsOk ↔ if m.k = 2 then AnsRight m.ac m.an m.ad.length m.ns else AnsBlank m.ac m.an m.ad.length m.ns.length) := Lib.hid (by unfold Msg.AnsOk; exact Iff.rfl)
  have c0 : w1.cell? ⟨w.heap.size, 0, none⟩ = some (.int .i64 m.k) := HB.out.low 0 _ (by omega) rfl
  obtain ⟨b1, hb1⟩ : ∃ b, decide (AnsBlank m.ac m.an m.ad.length m.ns.length) = b := ⟨_, rfl⟩
  have HB1 : Hid (b1 = true ↔ AnsBlank m.ac m.an m.ad.length m.ns.length) := Lib.hid (by rw [← hb1, decide_eq_true_eq])
  have HBA : Hid (∀ w, Calls Try.prog 44 #[.agg m.ans.toArray] w fun e w' => e = .returned (.bool b1) ∧ Same w w') := Lib.hid (fun w => hb1 ▸ blankAns_any m.ac m.an m.ao m.no m.ad.length m.acap m.ns.length m.ncap w)
  have HAB : Hid (Bytes w1 (.slice m.ao m.ad.length m.acap) m.ad) := Lib.hid (HA.out.same HK.out)
  have HSB : Hid (Strs w1 (.slice m.no m.ns.length m.ncap) m.ns) := Lib.hid (HS.out.same HK.out)
  have HWN : Hid (¬ AnsRight m.ac m.an m.ad.length m.ns → Calls Try.prog 45 #[.agg m.ans.toArray] w1 fun e w' => e = .returned (.tuple #[.slice none 0 0, .int .i64 1]) ∧ Same w1 w') := Lib.hid (fun h => writeAnswer_no m.ac m.an m.ao m.no m.ad.length m.acap m.ncap m.ns w1 HSB.out h)
  have HWY : Hid (AnsRight m.ac m.an m.ad.length m.ns → Calls Try.prog 45 #[.agg m.ans.toArray] w1 fun e w' => ∃ v, e = .returned (.tuple #[v, .int .i64 0]) ∧ w'.ownsRow w1.heap.size 5 1 v (ansBytes m.ac m.an m.ad m.ns).length (u8s (ansBytes m.ac m.an m.ad m.ns)) ∧ Same w1 w') := Lib.hid (fun h => writeAnswer_yes m.ac m.an m.ao m.no m.acap m.ncap m.ad m.ns w1 HAB.out HSB.out h)
  clear h hb1
  by_cases k2 : m.k = 2
  case neg =>
    have HF : Hid (m.AnsOk ↔ AnsBlank m.ac m.an m.ad.length m.ns.length) := Lib.hid (by rw [HC.out, if_neg k2])
    have e2 : (m.k != 2) = true := by simpa using k2
    clear k2
    go_enter Try.func37, Try.ntmps37
    go_wp2_with (refine wpList_load_mid (by rfl) 41 _ (by rfl) w.heap.size 47 (by rfl) m.ans _ HB.out.ansR Try.underlying41 rfl (by exact Try.sizeAnsW) ?_)
    ((with_reducible refine (HBA.out _).mono ?_); rintro e w3 ⟨rfl, hk3⟩)
    have HK3 := Lib.hid (HK.out.trans hk3 (fun _ _ e => e))
    clear hk3
    go_wp2
    go_ret
    exact ⟨_, rfl, HB1.out.trans HF.out.symm, HK3.out⟩
  have HF : Hid (m.AnsOk ↔ AnsRight m.ac m.an m.ad.length m.ns) := Lib.hid (by rw [HC.out, if_pos k2])
  have e2 : (m.k != 2) = false := by simpa using k2
  clear k2
  by_cases q : AnsRight m.ac m.an m.ad.length m.ns
  · have HT : Hid m.AnsOk := Lib.hid (HF.out.2 q)
    have HWY2 := Lib.hid (HWY.out q)
    go_enter Try.func37, Try.ntmps37
    go_wp2_with (refine wpList_load_mid (by rfl) 41 _ (by rfl) w.heap.size 47 (by rfl) m.ans _ HB.out.ansR Try.underlying41 rfl (by exact Try.sizeAnsW) ?_)
    ((with_reducible refine (HWY2.out).mono ?_); rintro e w3 ⟨v, rfl, ho3, hk3⟩)
    have HK3 := Lib.hid (HK.out.trans hk3 (fun _ _ e => e))
    clear hk3 ho3
    go_wp2
    go_ret
    exact ⟨_, rfl, by simpa using HT.out, HK3.out⟩
  · have HT : Hid (¬ m.AnsOk) := Lib.hid (fun h => q (HF.out.1 h))
    have HWN2 := Lib.hid (HWN.out q)
    go_enter Try.func37, Try.ntmps37
    go_wp2_with (refine wpList_load_mid (by rfl) 41 _ (by rfl) w.heap.size 47 (by rfl) m.ans _ HB.out.ansR Try.underlying41 rfl (by exact Try.sizeAnsW) ?_)
    ((with_reducible refine (HWN2.out).mono ?_); rintro e w3 ⟨rfl, hk3⟩)
    have HK3 := Lib.hid (HK.out.trans hk3 (fun _ _ e => e))
    clear hk3
    go_wp2
    go_ret
    exact ⟨_, rfl, by simpa using HT.out, HK3.out⟩

/-- What Check tells. -/
def CheckPost (w : World) (m : Msg) (e : Ending) (w' : World) : Prop := ∃ r, e = .returned (.int .i64 r) ∧ (r = 0 ∧ m.Right ∨ r = 1 ∧ ¬ m.Right) ∧ Same w w'
theorem CheckPost.no {w w' : World} {m : Msg} (h : ¬ m.Right) (k : Same w w') : CheckPost w m (.returned (.int .i64 1)) w' := ⟨1, rfl, .inr ⟨rfl, h⟩, k⟩
set_option maxRecDepth 100000 in
set_option maxHeartbeats 12800000 in
theorem checkMsg_any (m : Msg) (w : World) (h : MsgIn w m) : Calls Try.prog 26 #[.agg m.cells.toArray] w (CheckPost w m) := by
  have HM := Lib.hid h
  obtain ⟨w1, hw1⟩ : ∃ w1, w.alloc (.cells m.cells.toArray 45) = w1 := ⟨_, rfl⟩
  have HB : Hid (MsgAt w1 w.heap.size m) := Lib.hid (by rw [← hw1]; exact MsgAt.new w m h.hd)
  have HK : Hid (Same w w1) := Lib.hid (by rw [← hw1]; exact (Keeps.refl _ _).alloc _)
  have HM1 : Hid (MsgIn w1 m) := Lib.hid (HM.out.same HK.out)
  have HSZ := Lib.hid (Try.sizeMsgOf m h.hd)
  have HBW : Hid (w1.heap[w.heap.size]? = some (.cells m.cells.toArray 45 (0, 0))) := Lib.hid HB.out.1
  have c0 : w1.cell? ⟨w.heap.size, 0, none⟩ = some (.int .i64 m.k) := HB.out.low 0 _ (by omega) rfl
  have c1 : w1.cell? ⟨w.heap.size, 1, none⟩ = some (.int .i64 m.f) := HB.out.low 1 _ (by omega) rfl
  have c2 : w1.cell? ⟨w.heap.size, 2, none⟩ = some (.int .i64 m.t) := HB.out.low 2 _ (by omega) rfl
  have HP1 := Lib.hid (isPeer_any m.f w1)
  have HP2 := Lib.hid (isPeer_any m.t w1)
  clear h
  have HNO : Hid (¬ (1 ≤ m.k ∧ m.k ≤ 8) ∨ ¬ (0 ≤ m.f ∧ m.f ≤ 255) ∨ ¬ (0 ≤ m.t ∧ m.t ≤ 255) → ¬ m.Right) := Lib.hid (by
    rintro (h | h | h) hr
    · exact h hr.kind
    · exact h hr.frm
    · exact h hr.to)
  by_cases q1 : m.k < 1
  · have HF := Lib.hid (HNO.out (.inl (by omega)))
    go_enter Try.func26, Try.ntmps26
    go_wp2
    go_ret
    exact CheckPost.no HF.out HK.out
  by_cases q2 : (8 : Int) < m.k
  · have HF := Lib.hid (HNO.out (.inl (by omega)))
    go_enter Try.func26, Try.ntmps26
    go_wp2
    go_ret
    exact CheckPost.no HF.out HK.out
  by_cases q3 : 0 ≤ m.f ∧ m.f ≤ 255
  case neg =>
    have HF := Lib.hid (HNO.out (.inr (.inl q3)))
    rw [decide_eq_false q3] at HP1
    clear q3
    go_enter Try.func26, Try.ntmps26
    go_wp2_with fail
    ((with_reducible refine (HP1.out).mono ?_); rintro e w2 ⟨rfl, rfl⟩)
    go_wp2
    go_ret
    exact CheckPost.no HF.out HK.out
  rw [decide_eq_true q3] at HP1
  by_cases q4 : 0 ≤ m.t ∧ m.t ≤ 255
  case neg =>
    have HF := Lib.hid (HNO.out (.inr (.inr q4)))
    rw [decide_eq_false q4] at HP2
    clear q3 q4
    go_enter Try.func26, Try.ntmps26
    go_wp2_with fail
    ((with_reducible refine (HP1.out).mono ?_); rintro e w2 ⟨rfl, rfl⟩)
    go_wp2_with fail
    ((with_reducible refine (HP2.out).mono ?_); rintro e w3 ⟨rfl, rfl⟩)
    go_wp2
    go_ret
    exact CheckPost.no HF.out HK.out
  rw [decide_eq_true q4] at HP2
  have HH : Hid ((1 ≤ m.k ∧ m.k ≤ 8) ∧ (0 ≤ m.f ∧ m.f ≤ 255) ∧ (0 ≤ m.t ∧ m.t ≤ 255)) := Lib.hid ⟨by omega, q3, q4⟩
  clear q3 q4
  have HRC := Lib.hid (rightCall_any m w1 HM1.out)
  unfold BoolPost at HRC
  go_enter Try.func26, Try.ntmps26
  go_wp2_with fail
  ((with_reducible refine (HP1.out).mono ?_); rintro e w2 ⟨rfl, rfl⟩)
  go_wp2_with fail
  ((with_reducible refine (HP2.out).mono ?_); rintro e w3 ⟨rfl, rfl⟩)
  go_wp2_with (refine wpList_load_row (by rfl) 45 _ (by rfl) w.heap.size (by rfl) 45 m.cells.toArray (0, 0) _ HBW.out Try.underlying45 rfl HSZ.out ?_)
  ((with_reducible refine (HRC.out).mono ?_); rintro e w2 ⟨b1, rfl, hb1, hk2⟩)
  have HB1 := Lib.hid hb1
  have HK2 := Lib.hid (HK.out.trans hk2 (fun _ _ e => e))
  have HAT2 := Lib.hid (HB.out.keep hk2 (fun e => e))
  have HM2 := Lib.hid (HM1.out.same hk2)
  clear hb1 hk2
  cases b1 with
  | false =>
    have HF : Hid (¬ m.Right) := Lib.hid (fun hr => by have := HB1.out.2 hr.call; simp at this)
    go_wp2
    go_ret
    exact CheckPost.no HF.out HK2.out
  | true =>
  have HCO : Hid m.CallOk := Lib.hid (HB1.out.1 rfl)
  have HBW2 : Hid (w2.heap[w.heap.size]? = some (.cells m.cells.toArray 45 (0, 0))) := Lib.hid HAT2.out.1
  have HRA := Lib.hid (rightAns_any m w2 HM2.out)
  unfold BoolPost at HRA
  go_wp2_with (refine wpList_load_row_w (by rfl) 45 _ (by rfl) w.heap.size (by rfl) 45 m.cells.toArray (0, 0) _ HBW2.out Try.underlying45 rfl HSZ.out ?_)
  ((with_reducible refine (HRA.out).mono ?_); rintro e w3 ⟨b1, rfl, hb1, hk2⟩)
  have HB2 := Lib.hid hb1
  have HK3 := Lib.hid (HK2.out.trans hk2 (fun _ _ e => e))
  have HAT3 := Lib.hid (HAT2.out.keep hk2 (fun e => e))
  have HM3 := Lib.hid (HM2.out.same hk2)
  clear hb1 hk2
  cases b1 with
  | false =>
    have HF : Hid (¬ m.Right) := Lib.hid (fun hr => by have := HB2.out.2 hr.ans; simp at this)
    go_wp2
    go_ret
    exact CheckPost.no HF.out HK3.out
  | true =>
  have HAO : Hid m.AnsOk := Lib.hid (HB2.out.1 rfl)
  have c51 : w3.cell? ⟨w.heap.size, 51, none⟩ = some (.slice m.ho m.hs.length m.hcap) := HAT3.out.high 12 51 _ rfl rfl
  have c52 : w3.cell? ⟨w.heap.size, 52, none⟩ = some (.slice m.bo m.bs.length m.bcap) := HAT3.out.high 13 52 _ rfl rfl
  by_cases q5 : (16 : Int) < (m.hs.length : Int)
  · have HF : Hid (¬ m.Right) := Lib.hid (fun hr => by have := hr.hs; omega)
    go_wp2
    go_ret
    exact CheckPost.no HF.out HK3.out
  by_cases q6 : (64 : Int) < (m.bs.length : Int)
  · have HF : Hid (¬ m.Right) := Lib.hid (fun hr => by have := hr.bs; omega)
    go_wp2
    go_ret
    exact CheckPost.no HF.out HK3.out
  have HL : Hid (m.hs.length ≤ 16 ∧ m.bs.length ≤ 64) := Lib.hid (by omega)
  have HROW : Hid (Rows2 w3 (.slice m.bo m.bs.length m.bcap) m.bs) := Lib.hid HM3.out.bs
  obtain ⟨n, hn⟩ : ∃ n, m.bs.length = n := ⟨_, rfl⟩
  have HN := Lib.hid hn
  rw [hn] at c52 q6 HROW
  obtain ⟨bo, hbo⟩ : ∃ bo, m.bo = bo := ⟨_, rfl⟩
  rw [hbo] at c52 HROW
  clear hbo
  have hn64 : n ≤ 64 := by omega
  clear hn
  go_wp2
  go_loopw [46] (fun i wr => wr = w3 ∧ ∃ j : Nat, j ≤ n ∧ i = .int .i64 j ∧ Hid (∀ b ∈ m.bs.take j, b.2.length ≤ 470)) (fun i _ => n - (intOf i).toNat)
  case atStart => exact ⟨rfl, 0, by omega, rfl, Lib.hid (fun b h => by simp at h)⟩
  case round =>
    obtain ⟨rfl, j, hj, rfl, HT⟩ := hrel
    by_cases hlt : j < n
    · have hjl : j < m.bs.length := by rw [HN.out]; exact hlt
      obtain ⟨a, xo, xc, rfl, hx, hc, -⟩ := HROW.out.at hjl
      have HGE : Hid (m.bs[j]? = some m.bs[j]) := Lib.hid (List.getElem?_eq_getElem hjl)
      have HX := Lib.hid hx
      generalize m.bs[j] = r at hc HGE HX
      obtain ⟨rv, rl⟩ := r
      simp only at hc
      have hjn : (j : Int) < (n : Int) := by omega
      obtain ⟨k, hk⟩ : ∃ k, rl.length = k := ⟨_, rfl⟩
      have HRL := Lib.hid hk
      simp only [hk] at hc
      have HMEM : Hid (m.bs.take (j + 1) = m.bs.take j ++ [(rv, rl)]) := Lib.hid (by rw [List.take_add_one, HGE.out]; rfl)
      have HIN : Hid ((rv, rl) ∈ m.bs) := Lib.hid (List.mem_of_getElem? HGE.out)
      clear hjl hk hx
      by_cases hb : (470 : Int) < (k : Int)
      · have HF : Hid (¬ m.Right) := Lib.hid (fun hr => by have := hr.each _ HIN.out; have h2 := HRL.out; simp only at this; omega)
        go_wp2
        go_ret
        exact CheckPost.no HF.out HK3.out
      · go_wp2
        go_roundw
        case rel => exact ⟨by trivial, j + 1, by omega, by go_num, Lib.hid (by
          rw [HMEM.out]
          intro b hbm
          rcases List.mem_append.1 hbm with h | h
          · exact HT.out b h
          · simp only [List.mem_singleton] at h; subst h; have := HRL.out; simp only; omega)⟩
        case measure => simp [intOf]; omega
    · obtain rfl : j = n := by omega
      have hjn : ¬ (j : Int) < (j : Int) := by omega
      have HR : Hid m.Right := Lib.hid ⟨HH.out.1, HH.out.2.1, HH.out.2.2, HCO.out, HAO.out, HL.out.1, HL.out.2, by
        have := HT.out
        rwa [List.take_of_length_le (by rw [HN.out]; exact Nat.le_refl _)] at this⟩
      go_wp2
      go_ret
      exact ⟨0, rfl, .inl ⟨rfl, HR.out⟩, HK3.out⟩
end Go.Proofs.Ytlglkkoippoafaa
