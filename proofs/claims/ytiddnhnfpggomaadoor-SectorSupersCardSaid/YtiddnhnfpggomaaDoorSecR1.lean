/- The document's own pad, Wrap, Unwrap. -/
import Derived.Test.YtiddnhnfpggomaaDoorSec2
import Derived.Test.YtiddnhnfpggomaaDoorFresh
import Derived.Test.YtiddnhnfpggomaaDoorSha10
namespace Go.Proofs.YtiddnhnfpggomaaDoor
open Go.RowKit
set_option linter.unusedVariables false

theorem Bytes.cellAt {w : World} {ao : Option Addr} {n c : Nat} {bs : List UInt8} (h : Bytes w (.slice ao n c) bs) (k : Nat) (hk : k < bs.length) : ∃ a, ao = some a ∧ w.cell? (a.add k) = some (.int .u8 ((bs.getD k 0).toNat : Int)) := by
  rcases h with ⟨a, c', e, hc⟩ | ⟨c', e, rfl⟩
  · simp only [Value.slice.injEq] at e
    exact ⟨a, e.1, hc k _ (u8s_get bs k hk)⟩
  · simp at hk
/-- Some of the bytes, noughts behind. -/
def padTo (bs : List UInt8) (k : Nat) : List UInt8 := bs.take k ++ List.replicate (512 - k) 0
theorem padTo_length (bs : List UInt8) (k : Nat) (h : k ≤ bs.length) (hk : k ≤ 512) : (padTo bs k).length = 512 := by simp [padTo]; omega
theorem padTo_all (bs : List UInt8) : padTo bs bs.length = padB bs := by simp [padTo, padB]
theorem padTo_succ (bs : List UInt8) (k : Nat) (h : k < bs.length) (hk : k < 512) : (padTo bs k).set k (bs.getD k 0) = padTo bs (k + 1) := by
  unfold padTo
  rw [List.set_append_right _ _ (by simp; omega)]
  have e : 512 - k = (512 - (k + 1)) + 1 := by omega
  rw [e, List.replicate_succ, show k - (bs.take k).length = 0 from by simp; omega, List.set_cons_zero, List.take_succ_eq_append_getElem h, List.append_assoc]
  rw [show bs.getD k 0 = bs[k] from by simp [h]]
  rfl

set_option maxRecDepth 100000 in
set_option maxHeartbeats 3200000 in
theorem spad_any (ao : Option Addr) (c : Nat) (bs : List UInt8) (w : World) (hx : Bytes w (.slice ao bs.length c) bs) (hl : bs.length ≤ 512) :
    Calls Tryd.prog 22 #[.slice ao bs.length c] w fun e w' => e = .returned (.slice (some ⟨w.heap.size, 0, none⟩) 512 512) ∧ w'.ownsRow w.heap.size 5 1 (.slice (some ⟨w.heap.size, 0, none⟩) 512 512) 512 (u8s (padB bs)) ∧ Same w w' := by
  obtain ⟨i0, hi0, hz0, hz1, hz2⟩ := info_parts (show (Tryd.prog.info? 5).map (fun i => (i.zero, i.size, i.bytes)) = some (some (.int .u8 0), 1, 1) from by kernel_rfl)
  have HX := Lib.hid hx
  clear hx
  go_enter Tryd.func22, Tryd.ntmps22
  go_wp2_with (at_make; refine wpList_make_full _ rfl _ _ 22 rfl w.heap.size 5 i0 _ 1 Tryd.underlying22 hi0 hz0 hz1 _ _ _ _ 512 (by rfl) (by rfl) rfl rfl (by rw [hz2]; omega) (by unfold maxLen; omega) (Nat.le_refl _) ?_)
  intro w1 hown hgrow
  rw [show (madeCells #[Value.int .u8 0] 512).toList = u8s (padTo bs 0) from (made_u8 512).trans (by simp [padTo])] at hown
  have hk1 : Same w w1 := (Keeps.refl _ _).grown hgrow (fun k e _ => by simp at e)
  have HO := Lib.hid hown
  have HK := Lib.hid hk1
  clear hown hgrow hk1
  go_wp2
  go_loopw [4] (fun i wr => ∃ k : Nat, k ≤ bs.length ∧ i = .int .i64 k ∧ wr.ownsRow w.heap.size 5 1 (.slice (some ⟨w.heap.size, 0, none⟩) 512 512) 512 (u8s (padTo bs k)) ∧ Same w wr) (fun i _ => bs.length - (intOf i).toNat)
  case atStart => exact ⟨0, by omega, rfl, HO.out, HK.out⟩
  case round =>
    obtain ⟨k, hk, rfl, ho, hkk⟩ := hrel
    have HO1 := Lib.hid ho
    have HK1 := Lib.hid hkk
    clear ho hkk
    by_cases hlt : k < bs.length
    · obtain ⟨a, rfl, hcell⟩ := (HX.out.same HK1.out).cellAt k hlt
      obtain ⟨hc, hf⟩ := own_cell HO1.out k (by omega)
      have hjk : (k : Int) < (bs.length : Int) := by omega
      have hj5 : (k : Int) < 512 := by omega
      have hj0 : (0 : Int) ≤ (k : Int) := by omega
      go_wp2
      go_roundw
      case rel =>
        refine ⟨k + 1, by omega, by go_num, ?_, HK1.out.setCell _ _ (.inl (Nat.le_refl _))⟩
        rw [← padTo_succ bs k hlt (by omega)]
        exact own_set8 _ HO1.out (by omega) (by simp [hlt])
      case measure => simp [intOf]; omega
    · have hks : k = bs.length := by omega
      subst hks
      go_wp2
      go_ret
      have h8 := HO1.out
      rw [padTo_all] at h8
      exact ⟨rfl, h8, HK1.out⟩

set_option maxRecDepth 100000 in
set_option maxHeartbeats 3200000 in
theorem rwrap_long (ao : Option Addr) (n c : Nat) (w : World) (h : (470 : Int) < (n : Int)) :
    Calls Tryd.prog 10 #[.slice ao n c] w fun e w' => (∃ g, e = .returned (.tuple #[.slice (some ⟨g, 0, none⟩) 0 0, .int .i64 23])) ∧ Same w w' := by
  go_enter Tryd.func10, Tryd.ntmps10
  go_wp2
  go_ret2
  exact ⟨⟨_, rfl⟩, (Keeps.refl _ _).alloc _⟩

theorem byte_of (x : Nat) (h : x < 256) : ((UInt8.ofNat x).toNat : Int) = (x : Int) := by
  rw [UInt8.toNat_ofNat']; omega
set_option maxRecDepth 100000 in
set_option maxHeartbeats 3200000 in
theorem rwrap_ok (ao : Option Addr) (c : Nat) (bs : List UInt8) (w : World) (hx : Bytes w (.slice ao bs.length c) bs) (h : ¬ (470 : Int) < (bs.length : Int)) :
    Calls Tryd.prog 10 #[.slice ao bs.length c] w fun e w' => ∃ g, e = .returned (.tuple #[.slice (some ⟨g, 0, none⟩) 512 512, .int .i64 0]) ∧ w'.ownsRow w.heap.size 5 1 (.slice (some ⟨g, 0, none⟩) 512 512) 512 (u8s (wrapB bs)) ∧ Same w w' := by
  obtain ⟨i0, hi0, hz0, hz1, hz2⟩ := info_parts (show (Tryd.prog.info? 5).map (fun i => (i.zero, i.size, i.bytes)) = some (some (.int .u8 0), 1, 1) from by kernel_rfl)
  have HX := Lib.hid hx
  clear hx
  have hbe : be bs.length 2 = [UInt8.ofNat (bs.length / 256), UInt8.ofNat bs.length] := by simp [be, List.range_succ]
  have hcells : (#[.int .u8 66, .int .u8 ((bs.length : Int) / 256), .int .u8 ((bs.length : Int) % 256)] : Array Value) = (u8s (66 :: be bs.length 2)).toArray := by
    rw [hbe]
    simp only [u8s, List.map_cons, List.map_nil, UInt8.toNat_ofNat']
    have h1 : ((bs.length / 256 % 2 ^ 8 : Nat) : Int) = (bs.length : Int) / 256 := by omega
    have h2 : ((bs.length % 2 ^ 8 : Nat) : Int) = (bs.length : Int) % 256 := by omega
    rw [h1, h2]
    rfl
  have hlit : (w.alloc (.cells #[.int .u8 66, .int .u8 ((bs.length : Int) / 256), .int .u8 ((bs.length : Int) % 256)] 5)).ownsRow w.heap.size 5 1 (.slice (some ⟨w.heap.size, 0, none⟩) (66 :: be bs.length 2).length 3) (66 :: be bs.length 2).length (u8s (66 :: be bs.length 2)) := by
    have h3 : (66 :: be bs.length 2).length = 3 := by simp [be_length]
    rw [h3, hcells]
    exact own_lit w 5 _ 3 (by rw [u8s_length]; exact h3) (by omega)
  have HLIT := Lib.hid hlit
  have HXA := Lib.hid (HX.out.same (((Keeps.refl (fun _ => False) w)).alloc (.cells #[.int .u8 66, .int .u8 ((bs.length : Int) / 256), .int .u8 ((bs.length : Int) % 256)] 5)))
  have hl3 : (66 :: be bs.length 2).length = 3 := by simp [be_length]
  have HL3 := Lib.hid hl3
  clear hlit hcells hbe hl3
  obtain ⟨xs, hxs⟩ : ∃ xs, 66 :: be bs.length 2 = xs := ⟨_, rfl⟩
  rw [hxs] at HLIT HL3
  have HXS := Lib.hid hxs
  clear hxs
  go_enter Tryd.func10, Tryd.ntmps10
  go_wp2_with (at_builtin; refine wpList_append_bytes (by rfl) _ _ 22 5 i0 (by rfl) Tryd.underlying22 hi0 hz0 hz1 hz2 w.heap.size w.heap.size 3 xs bs _ (by rw [HL3.out]; rfl) (by rfl) HLIT.out HXA.out (by rw [HL3.out]; omega) (by simp) ?_)
  intro g1 c1 w2 ho2 hg2 hat2
  have hwt : xs ++ bs = wrapT bs := by rw [← HXS.out]; rfl
  have hwl : xs.length + bs.length = (wrapT bs).length := by rw [← hwt, List.length_append]
  rw [hwl, hwt] at ho2
  rw [hwl]
  have HW3 := Lib.hid (wrapT_length bs)
  have hk2 : Same w w2 := ((Keeps.refl (fun _ => False) w).alloc _).grown hg2 (fun k e hk => by simp only [Option.some.injEq] at e; omega)
  have HK2 := Lib.hid hk2
  have HB2 := Lib.hid (Bytes.of_own ho2)
  clear ho2 hg2 hat2 hk2 hwt hwl
  have hs2 := HK2.out.size
  go_wp2_with fail
  ((with_reducible refine (spad_any _ c1 (wrapT bs) _ HB2.out (by rw [HW3.out]; omega)).mono ?_); rintro e w3 ⟨rfl, ho3, hk3⟩)
  have HO3 : Hid (w3.ownsRow w.heap.size 5 1 (.slice (some ⟨w2.heap.size, 0, none⟩) 512 512) 512 (u8s (wrapB bs))) := Lib.hid (own_base ho3 hs2)
  have HK3 : Hid (Same w w3) := Lib.hid (HK2.out.trans hk3 (fun _ _ e => e))
  clear ho3 hk3
  go_wp2
  go_ret2
  exact ⟨_, rfl, HO3.out, HK3.out⟩

theorem IsWrap.first {bs b : List UInt8} (h : IsWrap bs b) : bs.length = 512 ∧ bs.getD 0 0 = 66 := by
  obtain ⟨h1, rfl⟩ := h
  obtain ⟨a0, _⟩ := wrapB_at b h1
  exact ⟨wrapB_length b h1, by simp [a0]⟩
theorem IsWrap.size {bs b : List UInt8} (h : IsWrap bs b) : b.length = beVal ((bs.drop 1).take 2) := by
  obtain ⟨h1, rfl⟩ := h
  obtain ⟨_, a1, _⟩ := wrapB_at b h1
  rw [a1, beVal_be _ 2 (by omega)]
theorem IsWrap.tail {bs b : List UInt8} (h : IsWrap bs b) (j : Nat) (hj : 3 + b.length ≤ j) : bs.getD j 0 = 0 := by
  obtain ⟨h1, rfl⟩ := h
  obtain ⟨_, _, _, a3⟩ := wrapB_at b h1
  have : (wrapB b)[j]? = (List.replicate (509 - b.length) (0 : UInt8))[j - (3 + b.length)]? := by
    rw [← a3, List.getElem?_drop]; congr 1; omega
  rw [List.getD_eq_getElem?_getD, this, List.getElem?_replicate]
  split <;> rfl
theorem two_val (bs : List UInt8) (h : 3 ≤ bs.length) : beVal ((bs.drop 1).take 2) = 256 * (bs.getD 1 0).toNat + (bs.getD 2 0).toNat := by
  match bs, h with
  | a :: b :: c :: r, _ => simp [beVal]; omega

set_option maxRecDepth 100000 in
set_option maxHeartbeats 6400000 in
theorem runwrap_any (ao : Option Addr) (c : Nat) (bs : List UInt8) (w : World) (hx : Bytes w (.slice ao bs.length c) bs) (hc : bs.length ≤ c) (hl : bs.length ≤ 140737488351232) :
    Calls Tryd.prog 12 #[.slice ao bs.length c] w fun e w' => Same w w' ∧ ((∃ b g cap, IsWrap bs b ∧ e = .returned (.tuple #[.slice (some ⟨g, 0, none⟩) b.length cap, .int .i64 0]) ∧ w'.ownsRow w.heap.size 5 1 (.slice (some ⟨g, 0, none⟩) b.length cap) b.length (u8s b)) ∨
      ((∀ b, ¬ IsWrap bs b) ∧ ∃ g, e = .returned (.tuple #[.slice (some ⟨g, 0, none⟩) 0 0, .int .i64 22]))) := by
  obtain ⟨i0, hi0, hz0, hz1, hz2⟩ := info_parts (show (Tryd.prog.info? 5).map (fun i => (i.zero, i.size, i.bytes)) = some (some (.int .u8 0), 1, 1) from by kernel_rfl)
  have HX := Lib.hid hx
  clear hx
  by_cases q1 : bs.length = 512
  case neg =>
    have q1' : ¬ (bs.length : Int) = 512 := by omega
    go_enter Tryd.func12, Tryd.ntmps12
    go_wp2
    go_ret2
    exact ⟨(Keeps.refl _ _).alloc _, .inr ⟨fun b hb => q1 hb.first.1, _, rfl⟩⟩
  obtain ⟨a, rfl, hc0⟩ := HX.out.cellAt 0 (by omega)
  obtain ⟨a', ha', hc1⟩ := HX.out.cellAt 1 (by omega)
  obtain rfl : a = a' := by simpa using ha'
  obtain ⟨a', ha'', hc2⟩ := HX.out.cellAt 2 (by omega)
  obtain rfl : a = a' := by simpa using ha''
  clear ha' ha''
  rw [show a.add 0 = a from by unfold Addr.add; split <;> simp_all] at hc0
  have h512 : (bs.length : Int) = 512 := by omega
  have HQ := Lib.hid q1
  go_enter Tryd.func12, Tryd.ntmps12
  by_cases q2 : bs.getD 0 0 = 66
  case neg =>
    have q2' : ¬ ((bs.getD 0 0).toNat : Int) = 66 := fun h => q2 (UInt8.toNat_inj.1 (by simpa using (by omega : (bs.getD 0 0).toNat = 66)))
    have HQ2 : Hid (∀ b, ¬ IsWrap bs b) := Lib.hid (fun b hb => q2 hb.first.2)
    clear q2
    generalize bs.getD 0 0 = b0 at *
    go_wp2
    go_ret2
    exact ⟨(Keeps.refl _ _).alloc _, .inr ⟨HQ2.out, _, rfl⟩⟩
  rw [q2] at hc0
  have t1 : (bs.getD 1 0).toNat < 256 := UInt8.toNat_lt _
  have t2 : (bs.getD 2 0).toNat < 256 := UInt8.toNat_lt _
  have htv := two_val bs (by omega)
  obtain ⟨b1, hb1⟩ : ∃ b1, (bs.getD 1 0).toNat = b1 := ⟨_, rfl⟩
  obtain ⟨b2, hb2⟩ : ∃ b2, (bs.getD 2 0).toNat = b2 := ⟨_, rfl⟩
  rw [hb1] at hc1 t1 htv
  rw [hb2] at hc2 t2 htv
  have HTV := Lib.hid htv
  have HQ2 := Lib.hid q2
  have wr1 : IntKind.i64.wrap (b1 : Int) = b1 := IntWalk.i64_in _ (by omega)
  have wr2 : IntKind.i64.wrap (b2 : Int) = b2 := IntWalk.i64_in _ (by omega)
  have hd1 : w.cell? ⟨a.block, a.off + 1, none⟩ = some (.int .u8 (b1 : Int)) := by simpa [Addr.add] using hc1
  have hd2 : w.cell? ⟨a.block, a.off + 2, none⟩ = some (.int .u8 (b2 : Int)) := by simpa [Addr.add] using hc2
  clear hb1 hb2 htv q2 hc1 hc2
  go_wp2
  go_region
  obtain ⟨n, hn⟩ : ∃ n : Nat, (256 : Int) * (b1 : Int) + (b2 : Int) = (n : Int) := ⟨256 * b1 + b2, by omega⟩
  rw [hn]
  have HTN : Hid (beVal ((bs.drop 1).take 2) = n) := Lib.hid (by rw [HTV.out]; omega)
  clear hc0 hd1 hd2 wr1 wr2 hn t1 t2 HTV
  by_cases q3 : (470 : Int) < (n : Int)
  · go_wp2
    go_ret2
    exact ⟨by first | exact (Keeps.refl _ _).alloc _ | exact ((Keeps.refl _ _).drew).alloc _, .inr ⟨fun b hb => by have := hb.size; rw [HTN.out] at this; have := hb.1; omega, _, rfl⟩⟩
  go_wp2
  go_loopw [5] (fun i wr => ∃ k : Nat, 3 + n ≤ k ∧ k ≤ 512 ∧ i = .int .i64 k ∧ (∀ j, 3 + n ≤ j → j < k → bs.getD j 0 = 0) ∧ Same w wr) (fun i _ => 512 - (intOf i).toNat)
  case atStart => exact ⟨3 + n, by omega, by omega, by first | rfl | (congr 1) | simp, fun j h1 h2 => by omega, by first | exact Keeps.refl _ _ | exact (Keeps.refl _ _).drew⟩
  case round =>
    obtain ⟨k, hk1, hk2, rfl, hz, hkk⟩ := hrel
    have HZ := Lib.hid hz
    have HK := Lib.hid hkk
    clear hz hkk
    by_cases hlt : k < 512
    · obtain ⟨a', ha', hcell⟩ := (HX.out.same HK.out).cellAt k (by have := HQ.out; omega)
      obtain rfl : a = a' := by simpa using ha'
      clear ha'
      have hj5 : (k : Int) < 512 := by omega
      have hj0 : (0 : Int) ≤ (k : Int) := by omega
      by_cases q4 : bs.getD k 0 = 0
      · rw [q4] at hcell
        go_wp2
        go_roundw
        case rel =>
          refine ⟨k + 1, by omega, by omega, by go_num, fun j h1 h2 => ?_, by first | exact HK.out | exact HK.out.drew⟩
          by_cases hjk : j = k
          · rw [hjk]; exact q4
          · exact HZ.out j h1 (by omega)
        case measure => simp [intOf]; omega
      · have q4' : ¬ ((bs.getD k 0).toNat : Int) = 0 := fun h => q4 (UInt8.toNat_inj.1 (by simpa using (by omega : (bs.getD k 0).toNat = 0)))
        have HQ4 : Hid (∀ b, ¬ IsWrap bs b) := Lib.hid (fun b hb => q4 (hb.tail k (by have := hb.size; rw [HTN.out] at this; omega)))
        clear q4
        generalize bs.getD k 0 = bk at *
        go_wp2
        go_ret2
        exact ⟨by first | exact HK.out.alloc _ | exact HK.out.drew.alloc _, .inr ⟨HQ4.out, _, rfl⟩⟩
    · have hks : k = 512 := by omega
      subst hks
      have HW : Hid (IsWrap bs ((bs.drop 3).take n)) := Lib.hid ⟨by simp; omega, (wrapB_of bs n HQ.out (by
        have h1 := HQ2.out; have h2 := HQ.out
        rw [List.getD_eq_getElem?_getD] at h1
        rw [List.getElem?_eq_getElem (by omega)] at h1 ⊢
        simpa using h1) HTN.out (by omega) (by
        refine List.ext_getElem (by simp [HQ.out]; omega) fun j h1 h2 => ?_
        have h3 := HZ.out (3 + n + j) (by omega) (by simp at h2; omega)
        have h4 := HQ.out
        simp at h1
        simp only [List.getElem_drop, List.getElem_replicate]
        simpa [show 3 + n + j < bs.length by omega] using h3)).symm⟩
      have hbl : ((bs.drop 3).take n).length = n := by have := HQ.out; simp; omega
      have HBL := Lib.hid hbl
      have HOE := Lib.hid (own_empty wr 5)
      have hcut := Bytes.cut (HX.out.same (HK.out.alloc (.cells #[] 5))) 3 n (c - 3) (by have := HQ.out; omega) hc
      rw [if_neg (by have := HQ.out; omega)] at hcut
      obtain ⟨mb, hmb⟩ : ∃ mb, (bs.drop 3).take n = mb := ⟨_, rfl⟩
      rw [hmb] at hcut HBL HW
      have HCUT : Hid (Bytes (wr.alloc (.cells #[] 5)) (.slice (some ⟨a.block, a.off + 3, none⟩) (3 + n - 3) (c - 3)) mb) := Lib.hid (by rw [show 3 + n - 3 = n from by omega]; simpa [Addr.add] using hcut)
      have hc5 : 512 ≤ c := by have := HQ.out; omega
      have hc3 : ¬ c = 3 := by omega
      clear hcut hmb hbl
      go_wp2_with (at_builtin; refine wpList_append_bytes (by rfl) _ _ 22 5 i0 (by rfl) Tryd.underlying22 hi0 hz0 hz1 hz2 wr.heap.size wr.heap.size 0 [] mb _ (by rfl) (by rfl) HOE.out HCUT.out (by rw [HBL.out]; simp; omega) (by simp) ?_)
      intro g1 c1 w3 ho3 hg3 hat3
      try simp only [List.length_nil, Nat.zero_add, List.nil_append] at ho3
      try simp only [List.length_nil, Nat.zero_add]
      have hs0 := HK.out.size
      have HK3 : Hid (Same w w3) := Lib.hid ((HK.out.alloc _).grown hg3 (fun k e hk => by simp only [Option.some.injEq] at e; omega))
      have HO3 := Lib.hid (own_base ho3 hs0)
      clear ho3 hg3 hat3
      go_wp2
      go_ret2
      exact ⟨HK3.out, .inl ⟨mb, g1, c1, HW.out, rfl, HO3.out⟩⟩

end Go.Proofs.YtiddnhnfpggomaaDoor
