/- The walk of NodeReads. -/
import Derived.Test.YtdeajjppmgfemaaNd12
import Derived.Test.YtdeajjppmgfemaaNd16
import Derived.Test.YtdeajjppmgfemaaNd20
namespace Go.Proofs.Ytdeajjppmgfemaa
open Go.RowKit
set_option linter.unusedVariables false

theorem NodeIs.one {bs : List UInt8} {lv lv2 : Int} {ps ks ps2 ks2 : List (List UInt8 × List UInt8)} {er er2 : Int} (h : NodeIs bs lv ps ks er) (h2 : NodeIs bs lv2 ps2 ks2 er2) : (lv = lv2 ∧ ps = ps2 ∧ ks = ks2) ∧ er2 = er := by
  rcases h with ⟨f1, b1, rfl⟩ | ⟨n1, rfl, rfl, rfl, rfl⟩ <;> rcases h2 with ⟨f2, b2, rfl⟩ | ⟨n2, rfl, rfl, rfl, rfl⟩
  · exact ⟨node_inj f1 f2 (b1.trans b2.symm), rfl⟩
  · exact absurd b1 (n2 _ _ _ f1)
  · exact absurd b2 (n1 _ _ _ f2)
  · exact ⟨⟨rfl, rfl, rfl⟩, rfl⟩
theorem NodeIs.len {bs : List UInt8} {lv : Int} {ps ks : List (List UInt8 × List UInt8)} {er : Int} (h : NodeIs bs lv ps ks er) : ps.length ≤ 255 ∧ ks.length ≤ 255 := by
  rcases h with ⟨f1, b1, rfl⟩ | ⟨n1, rfl, rfl, rfl, rfl⟩
  · have := f1.1.count; omega
  · simp

set_option maxRecDepth 100000 in
set_option maxHeartbeats 25600000 in
theorem nreads_any (ao : Option Addr) (n c : Nat) (bs : List UInt8) (w : World) (hx : Bytes w (.slice ao n c) bs) (hsp : ∀ x, ao = some x → bs ≠ [] → x.spot = none) (hn : bs.length = n) (hc : n ≤ c) :
    Calls Try.prog 4 #[.slice ao n c] w fun e w' => e = .returned (.bool true) ∧ Same w w' := by
  obtain ⟨i0, hi0, hz0, hz1, hz2⟩ := info_parts Try.info5
  have HX := Lib.hid hx
  have HSP := Lib.hid hsp
  have HNN := Lib.hid hn
  have HC := Lib.hid hc
  clear hx hsp hn hc
  go_enter Try.func4, Try.ntmps4
  go_wp2_with fail
  ((with_reducible refine (speaks07 _).mono ?_); rintro e w1 ⟨rfl, hk1⟩)
  have HS1 := Lib.hid hk1
  by_cases hbig : (2000 : Int) < (n : Int)
  · clear hk1
    go_wp2
    go_ret
    exact ⟨rfl, HS1.out⟩
  have hn2 : n ≤ 2000 := by omega
  have HOE := Lib.hid (own_empty w1 5)
  have HBX : Hid (Bytes (w1.alloc (.cells #[] 5)) (.slice ao n c) bs) := Lib.hid ((HX.out.same hk1).same ((Keeps.refl _ _).alloc _))
  have HZ1 := Lib.hid hk1.size
  have HL0 : Hid (([] : List UInt8).length + bs.length = n) := Lib.hid (by simp [HNN.out])
  have HBL : Hid (([] : List UInt8).length + bs.length ≤ 2000) := Lib.hid (by rw [HL0.out]; omega)
  clear hk1
  go_wp2_with (at_builtin; refine wpList_append_bytes (by rfl) _ _ 29 5 i0 (by rfl) Try.underlying29 hi0 hz0 hz1 hz2 w1.heap.size w1.heap.size 0 [] bs (.slice ao n c) (by rfl) (by rfl) HOE.out HBX.out (by have := HBL.out; simp at this ⊢; omega) (by simp) ?_)
  intro g1 c1 w2 ho hg hat
  have hk2 : Same w1 w2 := ((Keeps.refl (fun _ => False) w1).alloc _).grown hg (fun q e1 e2 => by simp only [Option.some.injEq] at e1; omega)
  try rw [List.length_nil, Nat.zero_add] at ho
  try rw [List.nil_append] at ho
  rw [HNN.out] at ho
  try rw [List.length_nil, Nat.zero_add]
  rw [HNN.out]
  have HO2 := Lib.hid ho
  have HS2 := Lib.hid (HS1.out.trans hk2 (fun _ _ e => e))
  have HG1 : Hid (g1 < w2.heap.size) := Lib.hid (ho.lt g1 rfl).2
  have HBI : Hid (Bytes w2 (.slice (some ⟨g1, 0, none⟩) n c1) bs) := Lib.hid (by
    have h := HO2.out
    rw [← HNN.out] at h ⊢
    exact Bytes.of_own h)
  have HC1 : Hid (n ≤ c1) := Lib.hid (own_cap ho).1
  have HRD := Lib.hid (nodeRead_any (some ⟨g1, 0, none⟩) n c1 bs w2 HBI.out (fun x e _ => by rw [← Option.some.inj e]) HNN.out HC1.out (fun e => by simp at e))
  clear ho hg hat hk2 HOE HBX HL0 HBL
  go_wp2_with fail
  ((with_reducible refine HRD.out.mono ?_); rintro e w3 ⟨hk3, lv, po, pc, ko, kc, ps, ks, er, rfl, his, hat⟩)
  obtain ⟨w4, hw4⟩ : ∃ w4, w3.alloc (.cells #[.int .i64 lv, .slice po ps.length pc, .slice ko ks.length kc] 25) = w4 := ⟨_, rfl⟩
  have HW4 := Lib.hid hw4
  have hk34 : Same w3 w4 := by rw [← hw4]; exact (Keeps.refl _ _).alloc _
  have hk24 : Same w2 w4 := hk3.trans hk34 (fun _ _ e => e)
  have HB4 : Hid (w4.heap[w3.heap.size]? = some (.cells #[.int .i64 lv, .slice po ps.length pc, .slice ko ks.length kc] 25 (0, 0))) := Lib.hid (by rw [← hw4]; exact heap_alloc_new w3 _)
  have HS4 := Lib.hid (HS2.out.trans hk24 (fun _ _ e => e))
  have HZ4 : Hid (w2.heap.size ≤ w3.heap.size ∧ w3.heap.size < w4.heap.size) := Lib.hid ⟨hk3.size, by rw [← hw4, World.size_alloc]; omega⟩
  have HAT4 : Hid (∀ (S : Nat → Prop) w'', Keeps S w4 w'' → (∀ j, S j → j < w2.heap.size) → NodeAt w'' po ko ps ks pc kc) := Lib.hid (fun S w'' k hS => hat S w'' ((hk34.mono (fun _ _ e => e.elim)).trans k (fun _ _ e => e)) hS)
  have HIS := Lib.hid his
  have HO4 := Lib.hid (own_keeps hk24 HO2.out (fun _ _ e => e))
  obtain ⟨bp, hbp⟩ : ∃ b, w3.heap.size = b := ⟨_, rfl⟩
  rw [hbp] at HB4 HZ4
  have HBP := Lib.hid hbp
  have HRD2 := Lib.hid (refRead_any ao n c bs w4 (HX.out.same HS4.out) HSP.out HNN.out HC.out)
  clear hw4 hk34 hk24 hk3 his hat hbp HRD HBI HO2 HS1 HS2
  go_wp2_with fail
  rw [HBP.out, HW4.out]
  ((with_reducible refine HRD2.out.mono ?_); rintro e w5 ⟨hk5, lv2, po2, pc2, ko2, kc2, ps2, ks2, er2, rfl, his2, hat2⟩)
  obtain ⟨⟨hlv, hps, hks⟩, rfl⟩ := NodeIs.one HIS.out his2
  obtain ⟨w6, hw6⟩ : ∃ w6, w5.alloc (.cells #[.int .i64 lv2, .slice po2 ps2.length pc2, .slice ko2 ks2.length kc2] 25) = w6 := ⟨_, rfl⟩
  have hk56 : Same w5 w6 := by rw [← hw6]; exact (Keeps.refl _ _).alloc _
  have hk46 : Same w4 w6 := hk5.trans hk56 (fun _ _ e => e)
  have hd6 : w6.heap[w5.heap.size]? = some (.cells #[.int .i64 lv2, .slice po2 ps2.length pc2, .slice ko2 ks2.length kc2] 25 (0, 0)) := by rw [← hw6]; exact heap_alloc_new w5 _
  have HB6 := Lib.hid (hk46.obj HB4.out (fun e => e))
  have HS6 := Lib.hid (HS4.out.trans hk46 (fun _ _ e => e))
  have HAT6 := Lib.hid (HAT4.out (fun _ => False) w6 hk46 (fun _ e => e.elim))
  have HAU6 := Lib.hid (hat2 (fun _ => False) w6 hk56 (fun _ e => e.elim))
  have HK46 := Lib.hid hk46
  have HEQ : Hid (NodeEq lv lv2 ps ps2 ks ks2) := Lib.hid ⟨hlv, hps, hks⟩
  have HLN : Hid (ps.length ≤ 255 ∧ ks.length ≤ 255) := Lib.hid (by have := HIS.out.len; rw [kvs_length, kks_length] at this; exact this)
  have hee : (er2 != er2) = false := by simp
  have hee2 : (er2 == er2) = true := by simp
  obtain ⟨b0, b1, b2⟩ := cell_of_three HB6.out
  obtain ⟨d0, d1, d2⟩ := cell_of_three hd6
  clear hk5 hk56 hk46 hd6 his2 hat2 hlv hps hks HRD2
  subst hw6
  go_wp2_with fail
  ((with_reducible refine (sameNode_any lv lv2 po ko po2 ko2 _ pc _ kc _ pc2 _ kc2 ps ps2 ks ks2 _ HAT6.out HAU6.out rfl rfl rfl rfl (by have := HLN.out; omega) (by have := HLN.out; omega)).mono ?_); rintro e w7 ⟨b, rfl, hk7, hb⟩)
  obtain rfl : b = true := hb.2 HEQ.out
  have HS7 := Lib.hid (HS6.out.trans hk7 (fun _ _ e => e))
  have HK47 := Lib.hid (HK46.out.trans hk7 (fun _ _ e => e))
  have HO7 := Lib.hid (own_keeps HK47.out HO4.out (fun _ _ e => e))
  have k1 := bytes_str (x := .slice (some ⟨g1, 0, none⟩) n c1) (b := bs) (w := w7) (by
    have h := HO7.out
    rw [← HNN.out] at h ⊢
    exact Bytes.of_own h) (fun a n' c' e _ => by simp only [Value.slice.injEq, Option.some.injEq] at e; rw [← e.1])
  have k2 := bytes_str (HX.out.same HS7.out) (fun a n' c' e h0 => HSP.out a (by simp only [Value.slice.injEq] at e; exact e.1) h0)
  clear hk7 hb b0 b1 b2 d0 d1 d2 HAT6 HAU6 HB6 HK46 HS6
  go_wp2
  clear k1 k2
  go_loopw [47] (fun i wr => ∃ k : Nat, k ≤ n ∧ i = .int .i64 k ∧ (∃ bs' : List UInt8, wr.ownsRow w1.heap.size 5 1 (.slice (some ⟨g1, 0, none⟩) n c1) n (u8s bs')) ∧ Keeps (fun q => q = g1) w7 wr) (fun i _ => n - (intOf i).toNat)
  case atStart => exact ⟨0, by omega, rfl, ⟨bs, HO7.out⟩, Keeps.refl _ _⟩
  case round =>
    obtain ⟨k, hk, rfl, ⟨bs', hown⟩, hkk⟩ := hrel
    have HO8 := Lib.hid hown
    have HK8 := Lib.hid hkk
    by_cases hlt : k < n
    · obtain ⟨hcc, hf⟩ := own_cell hown k hlt
      clear hown hkk
      go_wp2
      go_roundw
      case rel => exact ⟨k + 1, by omega, by go_num, ⟨bs'.set k 238, own_set8 238 HO8.out hlt (by rfl)⟩, HK8.out.setCell _ _ (.inr rfl)⟩
      case measure => simp [intOf]; omega
    · obtain rfl : k = n := by omega
      have hlt2 : ¬ (k : Int) < (k : Int) := by omega
      have HK9 : Hid (Keeps (fun q => q = g1) w4 wr) := Lib.hid ((HK47.out.mono (fun _ _ e => e.elim)).trans hkk (fun _ _ e => e))
      have HS9 : Hid (Same w wr) := Lib.hid (HS7.out.trans hkk (fun q hq e => by have := (HO8.out.lt g1 rfl).1; have := HZ1.out; omega))
      have HB9 := Lib.hid (HK9.out.obj HB4.out (fun e => by have := HZ4.out; have := HG1.out; omega))
      have HAT9 := Lib.hid (HAT4.out _ wr HK9.out (fun j e => by rw [e]; exact HG1.out))
      obtain ⟨b0, b1, b2⟩ := cell_of_three HB9.out
      clear hown hkk hk
      have HIS9 := Lib.hid HIS.out
      rcases his9 : HIS9.out with ⟨hf, hwb, rfl⟩ | ⟨_, _, _, _, rfl⟩
      case inr =>
        clear his9
        go_wp2
        go_ret
        exact ⟨rfl, HS9.out⟩
      have HF := Lib.hid hf
      have HWB := Lib.hid hwb
      have HLB : Hid (3 + psum ps + ((kks ks).flatMap codecK.enc).length ≤ 470) := Lib.hid (by have := hf.2.2; rw [nodeB_len, flatP_len] at this; exact this)
      have HLK : Hid (∀ k ∈ ks, k.fs.length ≤ 470) := Lib.hid (fun k0 hk0 => by
        have h1 := flat_mem_le codecK.enc (kks ks) (k0.fs, k0.hs) (by simp only [kks, List.mem_map]; exact ⟨k0, hk0, rfl⟩)
        rw [encK_len] at h1
        have := HLB.out
        simp only at h1
        omega)
      clear hf hwb his9
      go_wp2_with fail
      ((with_reducible refine (nodeWrite_any lv po ko _ pc _ kc ps ks _ HAT9.out rfl rfl (by have := HLB.out; omega) (fun k hk => by have := HLK.out k hk; omega) (by have := HLN.out; omega)).mono ?_); rintro e w10 ⟨hk10, v1, X, er1, rfl, hrd1, hfr1, hcs1⟩)
      have HS10 := Lib.hid (HS9.out.trans hk10 (fun _ _ e => e))
      obtain ⟨rfl, rfl⟩ : X = bs ∧ er1 = 0 := by
        rcases hcs1 with ⟨q1, q2, q3, q4⟩ | ⟨q1, q2, q3, q4⟩ | ⟨q1, q2, q3⟩
        · exact ⟨q3.trans HWB.out, q4⟩
        · have := HF.out.2.2; omega
        · exact absurd HF.out.1 q1
      have k1 := reads_str hrd1
      have k2 := bytes_str (HX.out.same HS10.out) (fun a n' c' e h0 => HSP.out a (by simp only [Value.slice.injEq] at e; exact e.1) h0)
      clear hk10 hrd1 hfr1 hcs1 b0 b1 b2
      go_wp2
      go_ret
      exact ⟨rfl, HS10.out⟩
end Go.Proofs.Ytdeajjppmgfemaa
