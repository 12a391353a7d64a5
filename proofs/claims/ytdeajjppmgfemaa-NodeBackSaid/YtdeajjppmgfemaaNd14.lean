/- The walk of NodeBack. -/
import Derived.Test.YtdeajjppmgfemaaNd12
import Derived.Test.YtdeajjppmgfemaaNd6
namespace Go.Proofs.Ytdeajjppmgfemaa
open Go.RowKit
set_option linter.unusedVariables false

/-- No node's bytes go on behind another one's. -/
theorem node_prefix {lv lv' : Int} {ps ks ps' ks' : List (List UInt8 × List UInt8)} {rest : List UInt8} (h : NFit lv ps ks) (h' : NFit lv' ps' ks') (he : nodeB lv.toNat ps ks = nodeB lv'.toNat ps' ks' ++ rest) : rest = [] := by
  obtain ⟨bs, hbs⟩ : ∃ bs, nodeB lv.toNat ps ks = bs := ⟨_, rfl⟩
  obtain ⟨_, ⟨_, _, _⟩, _, a1, a5, a2, a3⟩ := rd_of_node h hbs
  obtain ⟨ok1, ok2⟩ := nodeB_ok h'.2.2 h'.2.1
  have hc := h'.1.count
  have hlv := h'.1.1
  rw [hbs] at he
  have b0 : bs.drop 0 = be 84 1 ++ (be lv'.toNat 1 ++ (be (ps'.length + ks'.length) 1 ++ (ps'.flatMap codecP.enc ++ (ks'.flatMap codecK.enc ++ rest)))) := by rw [List.drop_zero, he]; simp [nodeB, List.append_assoc]
  obtain ⟨c1, d1, e1, f1⟩ := num_of b0 (by omega) (by omega)
  obtain ⟨c2, d2, e2, f2⟩ := num_of e1 (by omega) (by omega)
  obtain ⟨c3, d3, e3, f3⟩ := num_of e2 (by omega) (by omega)
  simp only [Nat.zero_add, Nat.reduceAdd] at c2 d1 d2 e2 c3 d3 e3
  have hl : lv = lv' := by omega
  subst hl
  have hlen : bs.length = (nodeB lv.toNat ps' ks').length + rest.length := by rw [he, List.length_append]
  rw [nodeB_len] at hlen
  rw [← List.length_eq_zero_iff]
  by_cases h0 : lv = 0
  · obtain ⟨rfl, q⟩ := a2 h0
    obtain ⟨rfl, _, _⟩ := h'.1.2.1 h0
    rw [c3] at q
    have := many_fit codecP bs 3 (by omega) ps' rest (by rw [e3]; simp) ok1
    simp only [List.length_nil, Nat.add_zero] at q
    rw [q] at this
    simp only [Option.some.injEq, Prod.mk.injEq] at this
    simp at hlen
    have h2 := this.2
    simp at h2
    omega
  · obtain ⟨rfl, q⟩ := a3 h0
    obtain ⟨rfl, _, _⟩ := h'.1.2.2 h0
    rw [c3] at q
    have := many_fit codecK bs 3 (by omega) ks' rest (by rw [e3]; simp) ok2
    simp only [List.length_nil, Nat.zero_add] at q
    rw [q] at this
    simp only [Option.some.injEq, Prod.mk.injEq] at this
    simp at hlen
    have h2 := this.2
    simp at h2
    omega
theorem nd_and_1023 (k : Int) : ∃ m : Nat, bits BinOp.and IntKind.i64 k 1023 = (m : Int) ∧ m ≤ 1023 := by
  have h2 : (BitVec.ofInt IntKind.i64.bits k &&& BitVec.ofInt IntKind.i64.bits 1023).toNat < 1024 := by
    rw [BitVec.toNat_and]
    have h3 : (BitVec.ofInt IntKind.i64.bits 1023).toNat = 1023 := by decide
    rw [h3]
    exact Nat.lt_succ_of_le Nat.and_le_right
  have h4 : bits BinOp.and IntKind.i64 k 1023 = IntKind.i64.wrap ((BitVec.ofInt IntKind.i64.bits k &&& BitVec.ofInt IntKind.i64.bits 1023).toNat : Int) := rfl
  rw [h4, IntWalk.i64_in _ (by omega)]
  exact ⟨_, rfl, by omega⟩
theorem u8_wrap (k : Int) : ∃ b : UInt8, IntKind.u8.wrap k = (b.toNat : Int) ∧ k % 256 = (b.toNat : Int) :=
  ⟨UInt8.ofNat (k % 256).toNat, by rw [IntKind.wrap_u8, UInt8.toNat_ofNat']; omega, by rw [UInt8.toNat_ofNat']; omega⟩
theorem bytes_whole {w : World} {B : Nat} {t : TypeId} {b : UInt8} {x : Int} (h : w.heap[B]? = some (.cells #[.int .u8 x] t (0, 0))) (hx : x = (b.toNat : Int)) (c : Nat) : Bytes w (.slice (some ⟨B, 0, none⟩) 1 c) [b] :=
  Bytes.of_block (bs := [b]) h (by rw [hx]; rfl) 1 c rfl

set_option maxRecDepth 100000 in
set_option maxHeartbeats 25600000 in
theorem back_any (lv k : Int) (po ko : Option Addr) (pc kc : Nat) (ps : List PairX) (ks : List KidX) (w : World) (h : NodeAt w po ko ps ks pc kc) (hm : pc ≤ 9223372036854775807) :
    Calls Try.prog 5 #[nodeV lv po ps.length pc ko ks.length kc, .int .i64 k] w fun e w' => e = .returned (.bool true) ∧ Same w w' := by
  obtain ⟨i0, hi0, hz0, hz1, hz2⟩ := info_parts Try.info5
  have HA0 : Hid ((w.alloc (.cells #[.int .i64 lv, .slice po ps.length pc, .slice ko ks.length kc] 25)).heap[w.heap.size]? = some (.cells #[.int .i64 lv, .slice po ps.length pc, .slice ko ks.length kc] 25 (0, 0))) := Lib.hid (heap_alloc_new w _)
  have HS0 : Hid (Same w (w.alloc (.cells #[.int .i64 lv, .slice po ps.length pc, .slice ko ks.length kc] 25))) := Lib.hid ((Keeps.refl _ _).alloc _)
  have HN := Lib.hid h
  have hpm : ps.length ≤ 9223372036854775807 := by have := h.hp; omega
  clear h
  go_enter Try.func5, Try.ntmps5
  go_wp2_with fail
  ((with_reducible refine (speaks07 _).mono ?_); rintro e w3 ⟨rfl, hk3⟩)
  have HA1 := Lib.hid (hk3.obj HA0.out (fun e => e))
  have HS1 := Lib.hid (HS0.out.trans hk3 (fun _ _ e => e))
  clear hk3 HA0 HS0
  obtain ⟨a0, a1, a2⟩ := cell_of_three HA1.out
  go_wp2_with fail
  ((with_reducible refine (great07 lv po ko _ pc _ kc ps ks _ (HN.out.same HS1.out) rfl rfl hpm).mono ?_); rintro e w4 ⟨b, rfl, hk4, hg⟩)
  have HA2 := Lib.hid (hk4.obj HA1.out (fun e => e))
  have HS2 := Lib.hid (HS1.out.trans hk4 (fun _ _ e => e))
  have HG := Lib.hid hg
  clear hk4 hg HA1 HS1 a0 a1 a2
  obtain ⟨a0, a1, a2⟩ := cell_of_three HA2.out
  cases b with
  | true =>
    go_wp2
    go_ret
    exact ⟨rfl, HS2.out⟩
  | false =>
  have HGA : Hid (psum ps ≤ 8000 ∧ ks.length ≤ 300 ∧ ∀ k ∈ ks, k.fs.length ≤ 70000) := Lib.hid (HG.out (by trivial))
  have HPB : Hid (ps.length ≤ 8000 ∧ ks.length ≤ 300) := Lib.hid ⟨by have := psum_len ps; have := HGA.out.1; omega, HGA.out.2.1⟩
  clear HG
  go_wp2_with fail
  ((with_reducible refine (nodeWrite_any lv po ko _ pc _ kc ps ks _ (HN.out.same HS2.out) rfl rfl (by have := HGA.out.1; omega) (fun k hk => by have := HGA.out.2.2 k hk; omega) (by have := HPB.out; omega)).mono ?_); rintro e w6 ⟨hk6, v1, X, er1, rfl, hrd1, hfr1, hcs1⟩)
  have HA3 := Lib.hid (hk6.obj HA2.out (fun e => e))
  have HS3 := Lib.hid (HS2.out.trans hk6 (fun _ _ e => e))
  clear hk6 hfr1 HA2 HS2 a0 a1 a2
  rcases hcs1 with ⟨hr, hle, rfl, rfl⟩ | ⟨_, _, rfl, rfl⟩ | ⟨_, rfl, rfl⟩
  case inr.inl =>
    obtain ⟨ao, c, rfl, _⟩ := hrd1
    go_wp2
    go_ret
    exact ⟨rfl, HS3.out⟩
  case inr.inr =>
    obtain ⟨ao, c, rfl, _⟩ := hrd1
    go_wp2
    go_ret
    exact ⟨rfl, HS3.out⟩
  have hfit : NFit lv (kvs ps) (kks ks) := ⟨hr, fun k hk => by
      simp only [kks, List.mem_map] at hk
      obtain ⟨k0, hk0, rfl⟩ := hk
      obtain ⟨j, hj, rfl⟩ := List.getElem_of_mem hk0
      obtain ⟨_, _, _, _, _, _, hka⟩ := HN.out.kids.at hj
      exact hka.hl, hle⟩
  have hX3 : 3 ≤ (nodeB lv.toNat (kvs ps) (kks ks)).length := by rw [nodeB_len]; omega
  obtain ⟨xa, xc, rfl, hbx, hsx, hcx⟩ := hrd1.some' (nodeB_ne _ _ _)
  obtain ⟨X, hX⟩ : ∃ X, nodeB lv.toNat (kvs ps) (kks ks) = X := ⟨_, rfl⟩
  rw [hX] at hbx hcx hX3 hle hrd1 ⊢
  obtain ⟨n, hn⟩ : ∃ n, X.length = n := ⟨_, rfl⟩
  rw [hn] at hbx hcx hX3 hle ⊢
  have HXX := Lib.hid hX
  have HNN := Lib.hid hn
  have HBX := Lib.hid hbx
  have HSX : Hid (∀ x, some xa = some x → X ≠ [] → x.spot = none) := Lib.hid (fun x e _ => by rw [← Option.some.inj e]; exact hsx)
  have HFIT := Lib.hid hfit
  have HRD := Lib.hid (nodeRead_any (some xa) n xc X _ hbx HSX.out hn hcx (fun e => by simp at e))
  clear hX hn hbx hsx hrd1 hfit hr
  go_wp2_with fail
  ((with_reducible refine HRD.out.mono ?_); rintro e w7 ⟨hk7, lv2, po2, pc2, ko2, kc2, ps2, ks2, er2, rfl, his, hat⟩)
  have heq : (lv2 = lv ∧ kvs ps2 = kvs ps ∧ kks ks2 = kks ks) ∧ er2 = 0 := by
    rcases his with ⟨hf, hb, he⟩ | ⟨hno, _⟩
    · exact ⟨node_inj hf HFIT.out (hb.trans HXX.out.symm), he⟩
    · exact absurd HXX.out (hno _ _ _ HFIT.out)
  obtain ⟨⟨rfl, hkv, hkk⟩, rfl⟩ := heq
  obtain ⟨w8, hw8⟩ : ∃ w8, w7.alloc (.cells #[.int .i64 lv2, .slice po2 ps2.length pc2, .slice ko2 ks2.length kc2] 25) = w8 := ⟨_, rfl⟩
  have HW8 := Lib.hid hw8
  have hk78 : Same w7 w8 := by rw [← hw8]; exact (Keeps.refl _ _).alloc _
  have HB8 : Hid (w8.heap[w7.heap.size]? = some (.cells #[.int .i64 lv2, .slice po2 ps2.length pc2, .slice ko2 ks2.length kc2] 25 (0, 0))) := Lib.hid (by rw [← hw8]; exact heap_alloc_new w7 _)
  have HA8 := Lib.hid (hk78.obj (hk7.obj HA3.out (fun e => e)) (fun e => e))
  have HS8 := Lib.hid ((HS3.out.trans hk7 (fun _ _ e => e)).trans hk78 (fun _ _ e => e))
  have HBX8 := Lib.hid ((HBX.out.same hk7).same hk78)
  have HAT8 := Lib.hid (hat (fun _ => False) w8 hk78 (fun _ e => e.elim))
  have HKV : Hid (NodeEq lv2 lv2 ps2 ps ks2 ks) := Lib.hid ⟨rfl, hkv, hkk⟩
  have HL2 : Hid (ps2.length = ps.length ∧ ks2.length = ks.length) := Lib.hid ⟨by rw [← kvs_length, hkv, kvs_length], by rw [← kks_length, hkk, kks_length]⟩
  obtain ⟨bp, hbp⟩ : ∃ b, w7.heap.size = b := ⟨_, rfl⟩
  rw [hbp] at HB8
  have HBP := Lib.hid hbp
  clear hw8 hk78 hk7 hat his hkv hkk HRD HA3 HS3 hbp
  obtain ⟨m, hmk, hm1⟩ := nd_and_1023 k
  have hmod : (m : Int) % (n : Int) = ((m % n : Nat) : Int) := by omega
  obtain ⟨r, hr⟩ : ∃ r, m % n = r := ⟨_, rfl⟩
  have hrn : r < n := by rw [← hr]; exact Nat.mod_lt _ (by omega)
  rw [hr] at hmod
  have HTK : Hid (Bytes w8 (.slice (some xa) r xc) (X.take r)) := Lib.hid (HBX8.out.take r (by rw [HNN.out]; omega))
  have HRD2 := Lib.hid (nodeRead_any (some xa) r xc (X.take r) w8 HTK.out (fun x e _ => by rw [← Option.some.inj e]; exact HSX.out xa rfl (by rw [← HXX.out]; exact nodeB_ne _ _ _)) (by rw [List.length_take, HNN.out]; omega) (by omega) (fun e => by simp at e))
  have hrn1 : (0 : Int) ≤ (r : Int) ∧ (r : Int) ≤ (n : Int) ∧ (r : Int) ≤ (xc : Int) := by omega
  have hn0 : (1 : Int) ≤ (n : Int) := by omega
  clear hr
  go_wp2_with fail
  rw [HBP.out, HW8.out]
  go_wp2_with fail
  ((with_reducible refine HRD2.out.mono ?_); rintro e w9 ⟨hk9, lv3, po3, pc3, ko3, kc3, ps3, ks3, er3, rfl, his3, hat3⟩)
  obtain rfl : er3 = 22 := by
    rcases his3 with ⟨hf, hb, _⟩ | ⟨_, _, _, _, he⟩
    · have h1 := node_prefix (rest := X.drop r) HFIT.out hf (by rw [HXX.out, hb, List.take_append_drop])
      have h2 := congrArg List.length h1
      simp at h2
      have := HNN.out
      omega
    · exact he
  obtain ⟨w10, hw10⟩ : ∃ w10, w9.alloc (.cells #[.int .i64 lv3, .slice po3 ps3.length pc3, .slice ko3 ks3.length kc3] 25) = w10 := ⟨_, rfl⟩
  have HW10 := Lib.hid hw10
  have hk10 : Same w8 w10 := hk9.trans (by rw [← hw10]; exact (Keeps.refl (fun _ => False) _).alloc _) (fun _ _ e => e)
  have HA10 := Lib.hid (hk10.obj HA8.out (fun e => e))
  have HB10 := Lib.hid (hk10.obj HB8.out (fun e => e))
  have HS10 := Lib.hid (HS8.out.trans hk10 (fun _ _ e => e))
  have HBX10 : Hid (Bytes ((w9.alloc (.cells #[.int .i64 lv3, .slice po3 ps3.length pc3, .slice ko3 ks3.length kc3] 25)).alloc (.cells #[] 5)) (.slice (some xa) n xc) X) := Lib.hid (by rw [hw10]; exact (HBX8.out.same hk10).same ((Keeps.refl _ _).alloc _))
  have HAT10 := Lib.hid (HAT8.out.same hk10)
  have HOE : Hid (((w9.alloc (.cells #[.int .i64 lv3, .slice po3 ps3.length pc3, .slice ko3 ks3.length kc3] 25)).alloc (.cells #[] 5)).ownsRow (w9.heap.size + 1) 5 1 (.slice (some ⟨w9.heap.size + 1, 0, none⟩) ([] : List UInt8).length 0) ([] : List UInt8).length (u8s [])) := Lib.hid (by
    have h := own_empty (w9.alloc (.cells #[.int .i64 lv3, .slice po3 ps3.length pc3, .slice ko3 ks3.length kc3] 25)) 5
    rw [World.size_alloc] at h
    exact h)
  have HZ10 : Hid (w10.heap.size = w9.heap.size + 1) := Lib.hid (by rw [← hw10, World.size_alloc])
  have HL0 : Hid (([] : List UInt8).length + X.length = X.length) := Lib.hid (by simp)
  obtain ⟨kb, hkb, hkb2⟩ := u8_wrap k
  clear hw10 hk9 hk10 his3 hat3 HRD2 HTK hmk hmod hrn1
  go_wp2_with (at_builtin; refine wpList_append_bytes (by rfl) _ _ 29 5 i0 (by rfl) Try.underlying29 hi0 hz0 hz1 hz2 (w9.heap.size + 1) (w9.heap.size + 1) 0 [] X (.slice (some xa) n xc) (by rfl) (by rfl) HOE.out HBX10.out (by have := HNN.out; simp; omega) (by simp) ?_)
  intro g1 c1 w11 ho1 hg1 hat1
  have hk11 : Same w10 w11 := HW10.out ▸ ((Keeps.refl (fun _ => False) (w9.alloc (.cells #[.int .i64 lv3, .slice po3 ps3.length pc3, .slice ko3 ks3.length kc3] 25))).alloc _).grown hg1 (fun q e1 e2 => by simp only [Option.some.injEq] at e1; simp only [World.size_alloc] at e2; omega)
  try rw [HL0.out, List.nil_append] at ho1
  try rw [HL0.out]
  have HO11 := Lib.hid ho1
  have HK11 := Lib.hid hk11
  have hz11 := hk11.size
  clear ho1 hg1 hat1 hk11
  go_wp2_with (at_builtin; refine wpList_append_bytes (by rfl) _ _ 29 5 i0 (by rfl) Try.underlying29 hi0 hz0 hz1 hz2 (w9.heap.size + 1) g1 c1 X [kb] (.slice (some ⟨w11.heap.size, 0, none⟩) 1 1) (by rfl) (by rfl) (own_keeps ((Keeps.refl (fun _ => False) w11).alloc _) HO11.out (fun _ _ e => e)) (bytes_whole (heap_alloc_new w11 _) rfl 1) (by have := HNN.out; simp; omega) (by have := HZ10.out; simp; omega) ?_)
  intro g2 c2 w12 ho2 hg2 hat2
  have hk12 : Same w10 w12 := (HK11.out.alloc _).grown hg2 (fun q e1 e2 => by simp only [Option.some.injEq] at e1; have := (HO11.out.lt g1 rfl).1; have := HZ10.out; omega)
  have HO12 := Lib.hid ho2
  have HK12 := Lib.hid hk12
  clear ho2 hg2 hat2 hk12
  clear hkb hkb2
  have hXk : X ++ [kb] ≠ [] := by simp
  have HBY : Hid (Bytes w12 (.slice (some ⟨g2, 0, none⟩) (X.length + 1) c2) (X ++ [kb])) := Lib.hid (by
    have h : X.length + 1 = (X ++ [kb]).length := by simp
    rw [h] at HO12 ⊢
    exact Bytes.of_own HO12.out)
  have HC2 : Hid (X.length + 1 ≤ c2) := Lib.hid (own_cap HO12.out).1
  have HRD3 := Lib.hid (nodeRead_any (some ⟨g2, 0, none⟩) (X.length + 1) c2 (X ++ [kb]) w12 HBY.out (fun x e _ => by rw [← Option.some.inj e]) (by simp) HC2.out (fun e => by simp at e))
  clear hXk
  go_wp2_with fail
  ((with_reducible refine HRD3.out.mono ?_); rintro e w13 ⟨hk13, lv4, po4, pc4, ko4, kc4, ps4, ks4, er4, rfl, his4, hat4⟩)
  obtain rfl : er4 = 22 := by
    rcases his4 with ⟨hf, hb, _⟩ | ⟨_, _, _, _, he⟩
    · have h1 := node_prefix (rest := [kb]) hf HFIT.out (by rw [hb, HXX.out])
      simp at h1
    · exact he
  obtain ⟨w14, hw14⟩ : ∃ w14, w13.alloc (.cells #[.int .i64 lv4, .slice po4 ps4.length pc4, .slice ko4 ks4.length kc4] 25) = w14 := ⟨_, rfl⟩
  have hk14 : Same w10 w14 := (HK12.out.trans hk13 (fun _ _ e => e)).trans (by rw [← hw14]; exact (Keeps.refl (fun _ => False) _).alloc _) (fun _ _ e => e)
  obtain ⟨b0, b1, b2⟩ := cell_of_three (hk14.obj HB10.out (fun e => e))
  obtain ⟨a0, a1, a2⟩ := cell_of_three (hk14.obj HA10.out (fun e => e))
  have HS14 := Lib.hid (HS10.out.trans hk14 (fun _ _ e => e))
  have HAT14 := Lib.hid (HAT10.out.same hk14)
  have HN14 := Lib.hid (HN.out.same HS14.out)
  clear hk13 hk14 his4 hat4 HRD3
  subst hw14
  go_wp2_with fail
  ((with_reducible refine (sameNode_any lv2 lv2 po2 ko2 po ko _ pc2 _ kc2 _ pc _ kc ps2 ps ks2 ks _ HAT14.out HN14.out rfl rfl rfl rfl (by have := HL2.out; have := HPB.out; omega) (by have := HL2.out; have := HPB.out; omega)).mono ?_); rintro e w15 ⟨b, rfl, hk15, hb⟩)
  obtain rfl : b = true := hb.2 HKV.out
  have HS15 := Lib.hid (HS14.out.trans hk15 (fun _ _ e => e))
  clear hk15 hb
  go_wp2
  go_ret
  exact ⟨rfl, HS15.out⟩
end Go.Proofs.Ytdeajjppmgfemaa
