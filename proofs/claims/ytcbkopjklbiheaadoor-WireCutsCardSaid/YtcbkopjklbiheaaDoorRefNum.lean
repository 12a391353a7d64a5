/- Parts of what reads as bytes; the document's own Number. -/
import Derived.Test.YtcbkopjklbiheaaDoorEye4
namespace Go.Proofs.YtcbkopjklbiheaaDoor
open Go.RowKit
set_option linter.unusedVariables false

theorem Bytes.of_own' {w : World} {base : Nat} {e : TypeId} {v : Value} {bs : List UInt8} {n : Nat} (h : w.ownsRow base e 1 v n (u8s bs)) (hn : bs.length = n) : Bytes w v bs := by
  subst hn; exact Bytes.of_own h
/-- A part of what reads as bytes, at the address that a slice expression makes. -/
theorem Bytes.cut {w : World} {ao : Option Addr} {cap : Nat} {bs : List UInt8} (h : Bytes w (.slice ao bs.length cap) bs) (lo n c : Nat) (hn : lo + n ≤ bs.length) (hc : bs.length ≤ cap) :
    Bytes w (.slice (if cap = lo then ao else Option.map (fun x => x.add lo) ao) n c) ((bs.drop lo).take n) := by
  have hl : ((bs.drop lo).take n).length = n := by simp; omega
  by_cases e : cap = lo
  · have h0 : n = 0 := by omega
    subst h0
    exact Bytes.nil _ _ _
  · rw [if_neg e]
    rcases h with ⟨a, c', h1, h2⟩ | ⟨c', h1, h2⟩
    · simp only [Value.slice.injEq] at h1
      obtain ⟨rfl, _, _⟩ := h1
      refine .inl ⟨a.add lo, c, by rw [hl]; rfl, fun j u hu => ?_⟩
      have hj : j < n := by
        have := (List.getElem?_eq_some_iff.1 hu).1
        rw [u8s_length, hl] at this; exact this
      have hadd : (a.add lo).add j = a.add (lo + j) := by
        unfold Addr.add
        by_cases h3 : lo = 0
        · subst h3; simp
        · by_cases h4 : j = 0
          · subst h4; simp [h3]
          · have h5 : lo + j ≠ 0 := by omega
            simp [h3, h4, Nat.add_assoc]
      rw [hadd]
      refine h2 (lo + j) u ?_
      rw [← hu]
      simp [u8s, hj, List.getElem?_drop]
    · subst h2
      simp only [List.length_nil] at hn
      have h0 : n = 0 := by omega
      subst h0
      exact Bytes.nil _ _ _

set_option maxRecDepth 100000 in
set_option maxHeartbeats 1600000 in
theorem number_any (ao : Option Addr) (n c : Nat) (bs : List UInt8) (w : World) (hx : Bytes w (.slice ao n c) bs) (hn : bs.length = n) (h8 : n ≤ 8) :
    Calls Tryd.prog 75 #[.slice ao n c] w fun e w' => e = .returned (.int .u64 (beVal bs : Nat)) ∧ w = w' := by
  have h82 : (n : Int) ≤ 8 := by omega
  have HX := Lib.hid hx
  have HN := Lib.hid hn
  clear hx hn
  go_enter Tryd.func75, Tryd.ntmps75
  go_wp2
  go_loop [3, 4] (fun x i => ∃ j : Nat, j ≤ n ∧ i = .int .i64 j ∧ ∃ X : Nat, X = beVal (bs.take j) ∧ x = .int .u64 X) (fun _ i => n - (intOf i).toNat)
  case atStart => exact ⟨0, by omega, rfl, 0, by simp [beVal], rfl⟩
  case round =>
    obtain ⟨j, hj, rfl, X, hX, rfl⟩ := hrel
    by_cases hlt : j < n
    · have hlt' : j < bs.length := by rw [HN.out]; exact hlt
      have hsm := beVal_small bs j (by omega)
      rw [← hX] at hsm
      have hsn : beVal (bs.take (j + 1)) = X * 256 + (bs[j]?.getD 0).toNat := by rw [take_snoc bs j hlt', beVal_snoc, hX]
      rcases HX.out with ⟨a, c', h1, h2⟩ | ⟨c', h1, h2⟩
      · simp only [Value.slice.injEq] at h1
        obtain ⟨rfl, _, _⟩ := h1
        have hc := h2 j _ (u8s_get bs j hlt')
        rw [List.getD_eq_getElem?_getD] at hc
        have hbl := UInt8.toNat_lt (bs[j]?.getD 0)
        generalize (bs[j]?.getD 0).toNat = bb at *
        have hm1 : (X : Int) < 72057594037927936 := by omega
        have hm2 : (bb : Int) < 256 := by omega
        have w1 : IntKind.u64.wrap ((X : Int) * 256) = (X : Int) * 256 := u64_wrap_in _ (by omega) (by omega)
        have w2 : IntKind.u64.wrap (bb : Int) = (bb : Int) := u64_wrap_in _ (by omega) (by omega)
        have w3 : IntKind.u64.wrap ((X : Int) * 256 + (bb : Int)) = (X : Int) * 256 + (bb : Int) := u64_wrap_in _ (by omega) (by omega)
        have HS := Lib.hid hsn
        clear hX hsm hsn h2 hbl
        go_wp2
        go_round
        case rel => exact ⟨j + 1, by omega, by go_num, X * 256 + bb, HS.out.symm, by simp⟩
        case measure => simp [intOf]; omega
      · simp [h2] at hlt'
    · have hb2 : bs.take j = bs := List.take_of_length_le (by rw [HN.out]; omega)
      rw [hb2] at hX
      subst hX
      clear hb2
      go_wp2
      go_ret
      exact ⟨rfl, rfl⟩

end Go.Proofs.YtcbkopjklbiheaaDoor
