/- The document's own padding. -/
import Derived.Test.YtiddnhnfpggomaaDoorSha15
namespace Go.Proofs.YtiddnhnfpggomaaDoor
open Go.RowKit
set_option linter.unusedVariables false

def zn (n : Nat) : Nat := (119 - n % 64) % 64
theorem zn_small (n : Nat) : zn n < 64 := by unfold zn; omega
theorem zn_mod (n k : Nat) (h : k ≤ zn n) : (n + 1 + k) % 64 = 56 ↔ k = zn n := by unfold zn at *; omega
/-- A text, padded with so many noughts. -/
def padZ (bs : List UInt8) (k : Nat) : List UInt8 := bs ++ [128] ++ List.replicate k 0
theorem padZ_length (bs : List UInt8) (k : Nat) : (padZ bs k).length = bs.length + 1 + k := by simp [padZ]; omega
theorem padZ_succ (bs : List UInt8) (k : Nat) : padZ bs k ++ [0] = padZ bs (k + 1) := by
  unfold padZ
  rw [List.replicate_succ', ← List.append_assoc]
def padOf (bs : List UInt8) : List UInt8 := padZ bs (zn bs.length) ++ be (bs.length * 8) 8
theorem padOf_length (bs : List UInt8) : (padOf bs).length = bs.length + 1 + zn bs.length + 8 := by unfold padOf; rw [List.length_append, padZ_length, be_length]
theorem one_lit (w : World) (b : UInt8) (t : TypeId) : Bytes (w.alloc (.cells #[.int .u8 (b.toNat : Int)] t)) (.slice (some ⟨w.heap.size, 0, none⟩) 1 1) [b] := by
  have h : (w.alloc (.cells #[.int .u8 (b.toNat : Int)] t)).ownsRow 0 t 1 (.slice (some ⟨w.heap.size, 0, none⟩) 1 1) 1 (u8s [b]) :=
    ⟨rfl, .inr ⟨w.heap.size, 1, #[.int .u8 (b.toNat : Int)], rfl, Nat.zero_le _, heap_alloc_new w _, Nat.le_refl _, by unfold maxLen; omega, rfl, rfl⟩⟩
  exact Bytes.of_own h

theorem pad_byte (n q : Nat) : ((n : Int) * 8 / 2 ^ (8 * q) % 256) = ((UInt8.ofNat (n * 8 / 256 ^ q)).toNat : Int) := by
  have hd : ((2 : Int) ^ (8 * q)) = ((256 ^ q : Nat) : Int) := by
    rw [show (256 : Nat) ^ q = 2 ^ (8 * q) from by rw [Nat.pow_mul], Int.natCast_pow]
    rfl
  rw [UInt8.toNat_ofNat', hd]
  obtain ⟨d, he⟩ : ∃ d : Nat, 256 ^ q = d := ⟨_, rfl⟩
  rw [he]
  show _ = ((n * 8 / d % 256 : Nat) : Int)
  rw [Int.natCast_emod, Int.natCast_ediv, Int.natCast_mul]
  rfl

set_option maxRecDepth 100000 in
set_option maxHeartbeats 12800000 in
theorem pad_any (ao : Option Addr) (n cap : Nat) (bs : List UInt8) (w : World) (hb : Bytes w (.slice ao n cap) bs) (hn : bs.length = n) (hl : n ≤ 1000000) :
    Calls Tryd.prog 42 #[.slice ao n cap] w fun e w' => ∃ g c, e = .returned (.slice (some ⟨g, 0, none⟩) (n + 1 + zn n + 8) c) ∧ w'.ownsRow w.heap.size 5 1 (.slice (some ⟨g, 0, none⟩) (n + 1 + zn n + 8) c) (n + 1 + zn n + 8) (u8s (padOf bs)) ∧ Same w w' := by
  have HB := Lib.hid hb
  have HN := Lib.hid hn
  obtain ⟨i0, hi0, hz0, hz1, hz2⟩ := info_parts (show (Tryd.prog.info? 5).map (fun i => (i.zero, i.size, i.bytes)) = some (some (.int .u8 0), 1, 1) from by kernel_rfl)
  obtain ⟨z, hz⟩ : ∃ z, zn n = z := ⟨_, rfl⟩
  have hz64 : z < 64 := hz ▸ zn_small n
  have HZ := Lib.hid hz
  have HOE := Lib.hid (own_empty w 5)
  have HBE : Hid (Bytes (w.alloc (.cells #[] 5)) (.slice ao bs.length cap) bs) := Lib.hid (by rw [hn]; exact hb.same ((Keeps.refl _ _).alloc _))
  rw [hz]
  clear hb hz
  subst hn
  go_enter Tryd.func42, Tryd.ntmps42
  go_wp2_with (at_builtin; refine wpList_append_bytes_g (by rfl) _ _ 22 5 i0 (by rfl) Tryd.underlying22 hi0 hz0 hz1 hz2 w.heap.size w.heap.size 0 [] bs _ (by rfl) (by rfl) HOE.out HBE.out (by simp; omega) (by simp) ?_)
  intro g1 c1 w1 ho1 hg1 hat1
  try simp only [List.length_nil, Nat.zero_add, List.nil_append] at ho1
  try simp only [List.length_nil, Nat.zero_add]
  have hk1 : Same w w1 := ((Keeps.refl (fun _ => False) w).alloc _).grown hg1 (fun k e hk => by simp only [Option.some.injEq] at e; omega)
  have HK1 := Lib.hid hk1
  have HO1 : Hid ((w1.alloc (.cells #[.int .u8 128] 5)).ownsRow w.heap.size 5 1 (.slice (some ⟨g1, 0, none⟩) bs.length c1) bs.length (u8s bs)) := Lib.hid (own_keeps ((Keeps.refl (fun _ => False) w1).alloc _) ho1 (fun _ _ e => e))
  have HB1 : Hid (Bytes (w1.alloc (.cells #[.int .u8 128] 5)) (.slice (some ⟨w1.heap.size, 0, none⟩) 1 1) [128]) := Lib.hid (one_lit w1 128 _)
  have hw1 := hk1.size
  have hgl1 := (ho1.lt g1 rfl).1
  clear ho1 hg1 hat1 hk1 HOE HBE
  go_wp2_with (at_builtin; refine wpList_append_bytes_g (by rfl) _ _ 22 5 i0 (by rfl) Tryd.underlying22 hi0 hz0 hz1 hz2 w.heap.size g1 c1 bs [128] _ (by rfl) (by rfl) HO1.out HB1.out (by simp; omega) (by simp; omega) ?_)
  intro g2 c2 w2 ho2 hg2 hat2
  have hk2 : Same w w2 := (HK1.out.alloc _).grown hg2 (fun k e hk => by simp only [Option.some.injEq] at e; omega)
  have HK2 := Lib.hid hk2
  have HO2 : Hid (w2.ownsRow w.heap.size 5 1 (.slice (some ⟨g2, 0, none⟩) (bs.length + 1 + 0) c2) (bs.length + 1 + 0) (u8s (padZ bs 0))) := Lib.hid (by simpa [padZ] using ho2)
  clear ho2 hg2 hat2 hk2 HO1 HB1 HK1 hw1 hgl1
  try simp only [List.length_cons, List.length_nil, Nat.zero_add]
  go_wp2
  go_loopw [3] (fun o wr => ∃ k g c : Nat, k ≤ z ∧ o = .slice (some ⟨g, 0, none⟩) (bs.length + 1 + k) c ∧ wr.ownsRow w.heap.size 5 1 (.slice (some ⟨g, 0, none⟩) (bs.length + 1 + k) c) (bs.length + 1 + k) (u8s (padZ bs k)) ∧ Same w wr) (fun o _ => bs.length + 1 + z - lenOf o)
  case atStart => exact ⟨0, g2, c2, by omega, rfl, HO2.out, HK2.out⟩
  case round =>
    clear HO2 HK2
    obtain ⟨k, g, c, hk, rfl, ho, hs⟩ := hrel
    obtain ⟨wo, rfl⟩ : ∃ wo : World, wo = wr := ⟨_, rfl⟩
    have HKS := Lib.hid hs
    have hgl := (ho.lt g rfl).1
    have hws := hs.size
    by_cases hkz : k = z
    · subst hkz
      have HO3 := Lib.hid ho
      have hq : ((bs.length + 1 + k : Nat) : Int) % 64 = 56 := by
        have := (zn_mod bs.length k (by rw [HZ.out]; exact Nat.le_refl _)).2 HZ.out.symm
        omega
      clear ho hs hgl
      obtain ⟨L, hL⟩ : ∃ L, bs.length + 1 + k = L := ⟨_, rfl⟩
      rw [hL] at HO3 hq ⊢
      have hm1 : IntKind.u64.wrap (bs.length : Int) = (bs.length : Int) := by unfold IntKind.wrap; simp [IntKind.bits, IntKind.signed]; omega
      have hm2 : IntKind.u64.wrap ((bs.length : Int) * 8) = (bs.length : Int) * 8 := by unfold IntKind.wrap; simp [IntKind.bits, IntKind.signed]; omega
      go_wp2
      clear hq
      go_loopw [3, 5] (fun o i wr => ∃ j g c : Nat, j ≤ 8 ∧ i = .int .i64 (7 - (j : Int)) ∧ o = .slice (some ⟨g, 0, none⟩) (L + j) c ∧ wr.ownsRow w.heap.size 5 1 (.slice (some ⟨g, 0, none⟩) (L + j) c) (L + j) (u8s (padZ bs k ++ (be (bs.length * 8) 8).take j)) ∧ Same w wr) (fun _ i _ => (intOf i + 1).toNat)
      case atStart => exact ⟨0, g, c, by omega, rfl, rfl, by simpa using HO3.out, HKS.out⟩
      case round =>
        clear HO3 HKS
        obtain ⟨j, g, c, hj, rfl, rfl, ho, hs⟩ := hrel
        obtain ⟨wp, rfl⟩ : ∃ wp : World, wp = wr := ⟨_, rfl⟩
        have HKS := Lib.hid hs
        have hgl := (ho.lt g rfl).1
        have HO4 := Lib.hid ho
        clear ho hs
        by_cases hj8 : j < 8
        · obtain ⟨q, hqq⟩ : ∃ q : Nat, 7 - j = q := ⟨_, rfl⟩
          have hqi : 7 - (j : Int) = (q : Int) := by omega
          have s2 : IntKind.i64.wrap (8 * (q : Int)) = 8 * (q : Int) := IntWalk.i64_in _ (by omega)
          have s6 : (0 : Int) ≤ 8 * (q : Int) := by omega
          have s8 : 8 * (q : Int) < 64 := by omega
          have hq0 : (0 : Int) ≤ (q : Int) := by omega
          obtain ⟨xs, hxs⟩ : ∃ xs, padZ bs k ++ (be (bs.length * 8) 8).take j = xs := ⟨_, rfl⟩
          have HXS : Hid (padZ bs k ++ (be (bs.length * 8) 8).take (j + 1) = xs ++ [UInt8.ofNat (bs.length * 8 / 256 ^ q)]) := Lib.hid (by
            rw [be_take_succ _ _ _ hj8, ← List.append_assoc, hxs, show 8 - 1 - j = q from by omega])
          have HXL : Hid (xs.length = L + j) := Lib.hid (by
            rw [← hxs, List.length_append, padZ_length, List.length_take, be_length]; omega)
          rw [hxs] at HO4
          have HO5 : Hid ((wp.alloc (.cells #[.int .u8 ((bs.length : Int) * 8 / 2 ^ (8 * q) % 256)] 5)).ownsRow w.heap.size 5 1 (.slice (some ⟨g, 0, none⟩) xs.length c) xs.length (u8s xs)) := Lib.hid (by rw [HXL.out]; exact own_keeps ((Keeps.refl (fun _ => False) wp).alloc _) HO4.out (fun _ _ e => e))
          have HB5 : Hid (Bytes (wp.alloc (.cells #[.int .u8 ((bs.length : Int) * 8 / 2 ^ (8 * q) % 256)] 5)) (.slice (some ⟨wp.heap.size, 0, none⟩) 1 1) [UInt8.ofNat (bs.length * 8 / 256 ^ q)]) := Lib.hid (by rw [pad_byte]; exact one_lit wp _ _)
          have hws2 := HKS.out.size
          rw [hqi]
          clear hxs HO4
          go_wp2_with (at_builtin; refine wpList_append_bytes_g (by rfl) _ _ 22 5 i0 (by rfl) Tryd.underlying22 hi0 hz0 hz1 hz2 w.heap.size g c xs [UInt8.ofNat (bs.length * 8 / 256 ^ q)] _ (by rw [HXL.out]; rfl) (by rfl) HO5.out HB5.out (by rw [HXL.out]; simp; omega) (by simp; omega) ?_)
          intro g4 c4 w5 ho5 hg5 hat5
          have hk5 : Same w w5 := (HKS.out.alloc _).grown hg5 (fun k e hk => by simp only [Option.some.injEq] at e; omega)
          have HO6 : Hid (w5.ownsRow w.heap.size 5 1 (.slice (some ⟨g4, 0, none⟩) (L + (j + 1)) c4) (L + (j + 1)) (u8s (padZ bs k ++ (be (bs.length * 8) 8).take (j + 1)))) := Lib.hid (by
            rw [HXS.out]
            rw [HXL.out] at ho5
            exact ho5)
          have HK5 := Lib.hid hk5
          clear ho5 hg5 hat5 hk5 HO5 HB5
          rw [HXL.out]
          go_wp2
          go_roundw
          case rel => exact ⟨j + 1, g4, c4, by omega, by go_num, rfl, HO6.out, HK5.out⟩
          case measure => simp [intOf]
        · obtain rfl : j = 8 := by omega
          have HO6 : Hid (wp.ownsRow w.heap.size 5 1 (.slice (some ⟨g, 0, none⟩) (L + 8) c) (L + 8) (u8s (padOf bs))) := Lib.hid (by
            have h := HO4.out
            rw [be_take_all] at h
            unfold padOf
            rw [HZ.out]
            exact h)
          clear HO4
          go_wp2
          go_ret
          exact ⟨g, c, by rw [hL]; rfl, by rw [hL]; exact HO6.out, HKS.out⟩
    · have hq : ¬ ((bs.length + 1 + k : Nat) : Int) % 64 = 56 := by
        have := mt (zn_mod bs.length k (by rw [HZ.out]; exact hk)).1 (by rw [HZ.out]; exact hkz)
        omega
      have hq2 : ((bs.length + 1 + k : Nat) : Int).tmod 64 = ((bs.length + 1 + k : Nat) : Int) % 64 := Int.tmod_eq_emod_of_nonneg (by omega)
      have HO3 : Hid ((wo.alloc (.cells #[.int .u8 0] 5)).ownsRow w.heap.size 5 1 (.slice (some ⟨g, 0, none⟩) (padZ bs k).length c) (padZ bs k).length (u8s (padZ bs k))) := Lib.hid (by rw [padZ_length]; exact own_keeps ((Keeps.refl (fun _ => False) wo).alloc _) ho (fun _ _ e => e))
      have HB3 : Hid (Bytes (wo.alloc (.cells #[.int .u8 0] 5)) (.slice (some ⟨wo.heap.size, 0, none⟩) 1 1) [0]) := Lib.hid (one_lit wo 0 _)
      have hpl := padZ_length bs k
      clear ho hs
      obtain ⟨L, hL⟩ : ∃ L, bs.length + 1 + k = L := ⟨_, rfl⟩
      have HLL : Hid ((padZ bs k).length = L) := Lib.hid (by rw [hpl, hL])
      rw [hL] at hq hq2 ⊢
      clear hpl
      go_wp2_with (at_builtin; refine wpList_append_bytes_g (by rfl) _ _ 22 5 i0 (by rfl) Tryd.underlying22 hi0 hz0 hz1 hz2 w.heap.size g c (padZ bs k) [0] _ (by rw [HLL.out]; rfl) (by rfl) HO3.out HB3.out (by rw [HLL.out]; simp; omega) (by simp; omega) ?_)
      intro g2 c2 w4 ho4 hg4 hat4
      have hk4 : Same w w4 := (HKS.out.alloc _).grown hg4 (fun k e hk => by simp only [Option.some.injEq] at e; omega)
      have HO4 : Hid (w4.ownsRow w.heap.size 5 1 (.slice (some ⟨g2, 0, none⟩) (bs.length + 1 + (k + 1)) c2) (bs.length + 1 + (k + 1)) (u8s (padZ bs (k + 1)))) := Lib.hid (by
        rw [padZ_succ, HLL.out, ← hL] at ho4
        exact ho4)
      have HK4 := Lib.hid hk4
      clear ho4 hg4 hat4 hk4 HO3 HB3
      rw [HLL.out]
      go_wp2
      go_roundw
      case rel => exact ⟨k + 1, g2, c2, by omega, by rw [← hL]; rfl, HO4.out, HK4.out⟩
      case measure => simp [lenOf]; omega

end Go.Proofs.YtiddnhnfpggomaaDoor
