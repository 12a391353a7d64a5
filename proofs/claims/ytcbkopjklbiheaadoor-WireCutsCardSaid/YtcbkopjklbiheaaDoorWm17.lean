/- The walk of WireCuts. -/
import Derived.Test.YtcbkopjklbiheaaDoorWm16
import Derived.Test.YtcbkopjklbiheaaDoorLrow
namespace Go.Proofs.YtcbkopjklbiheaaDoor
open Go.RowKit
set_option linter.unusedVariables false

theorem MsgIn.good {w : World} {m : Msg} (h : MsgIn w m) (hR : m.Right) : m.Good := ⟨hR, h.hd, h.nm, h.hs.1⟩
theorem Msg.Good.bytes_le {m : Msg} (h : m.Good) : 91 ≤ m.bytes.length ∧ m.bytes.length ≤ 40000 := by
  refine ⟨(bytes_begin h.right h.hd).1, ?_⟩
  have h1 := h.right.front_len h.hd
  have h2 := flat32 m.hs h.hs
  have h3 := txts_len (m.bs.map (·.2)) (fun b hb => by
    obtain ⟨r, h1, rfl⟩ := List.mem_map.1 hb
    exact h.right.each r h1)
  have h4 := h.right.hs
  have h5 := h.right.bs
  rw [List.length_map] at h3
  rw [m.bytes_length]
  unfold Msg.bodyB
  simp only [List.length_append, be_length]
  omega
theorem Msg.Eqv.refl (m : Msg) : m.Eqv m := ⟨rfl, rfl, rfl, rfl, rfl, rfl, rfl, rfl, rfl, rfl, ⟨rfl, rfl, rfl, rfl, rfl, rfl⟩, ⟨rfl, rfl, rfl, rfl⟩, rfl, rfl⟩
theorem cut_ne {m x : Msg} {bs : List UInt8} {er : Int} (hm : m.Right) (hb : bs.length ≠ m.bytes.length) (h : (x.Right ∧ x.bytes = bs ∧ er = 0) ∨ ((∀ m' : Msg, m'.Good → m'.bytes ≠ bs) ∧ x = zeroM ∧ er = 22)) : ¬ x.Eqv m := by
  intro e
  rcases h with ⟨_, h, _⟩ | ⟨_, h, _⟩
  · rw [← h, e.bytes] at hb; exact hb rfl
  · have := e.k
    rw [h] at this
    have h2 := hm.kind
    simp only [zeroM] at this
    omega
theorem and_mask (k : Int) : 0 ≤ bits BinOp.and IntKind.i64 k 65535 ∧ bits BinOp.and IntKind.i64 k 65535 < 65536 := by
  have h2 : (BitVec.ofInt IntKind.i64.bits k &&& BitVec.ofInt IntKind.i64.bits 65535).toNat < 65536 := by
    rw [BitVec.toNat_and]
    have h3 : (BitVec.ofInt IntKind.i64.bits 65535).toNat = 65535 := by decide
    rw [h3]
    exact Nat.lt_succ_of_le Nat.and_le_right
  have h4 : bits BinOp.and IntKind.i64 k 65535 = IntKind.i64.wrap ((BitVec.ofInt IntKind.i64.bits k &&& BitVec.ofInt IntKind.i64.bits 65535).toNat : Int) := rfl
  rw [h4, IntWalk.i64_in _ (by omega)]
  omega
theorem small0 {q : Msg} (h : q = zeroM) : q.ns.length ≤ 140737488351232 ∧ q.hs.length ≤ 140737488351232 ∧ q.bs.length ≤ 140737488351232 := by
  rw [h]; simp [zeroM]
theorem infoU8W : (Tryd.prog.info? 5).map (fun i => (i.zero, i.size, i.bytes)) = some (some (.int .u8 0), 1, 1) := by kernel_rfl
set_option maxRecDepth 100000 in
set_option maxHeartbeats 51200000 in
theorem cuts_any (m : Msg) (k : Int) (w : World) (h : MsgIn w m) (hN : Nums w) : Calls Tryd.prog 7 #[.agg m.cells.toArray, .int .i64 k] w fun e w' => e = .returned (.bool true) ∧ Same w w' := by
  have hzm := Tryd.zeroMsgW
  have HM := Lib.hid h
  have HNUM := Lib.hid hN
  obtain ⟨iu, hiu, hu0, hu1, hu2⟩ := info_partsW infoU8W
  have HIU := Lib.hid hu0
  obtain ⟨w1, hw1⟩ : ∃ w1, w.alloc (.cells m.cells.toArray 38) = w1 := ⟨_, rfl⟩
  have HK : Hid (Same w w1) := Lib.hid (by rw [← hw1]; exact (Keeps.refl _ _).alloc _)
  have HBA : Hid (Whole w1 w.heap.size 38 m.cells) := Lib.hid (by rw [← hw1]; exact heap_alloc_new w _)
  have HSA := Lib.hid (Tryd.sizeMsgOf m h.hd)
  clear h hN hu0
  go_enter Tryd.func7, Tryd.ntmps7
  go_wp2_with fail
  ((with_reducible refine (speaks19 _ (HNUM.out.keep HK.out (fun e => e))).mono ?_); rintro e w3 ⟨rfl, hk3⟩)
  have HK3 := Lib.hid (HK.out.trans hk3 (fun _ _ e => e))
  have HRA3 : Hid (w3.heap[w.heap.size]? = some (.cells m.cells.toArray 38 (0, 0))) := Lib.hid (HBA.out.keep hk3 (fun e => e))
  have HGA := Lib.hid (greatMsg_any m w3 (HM.out.same HK3.out))
  unfold GreatM at HGA
  clear hk3 hw1 HBA
  go_wp2_with ((with_reducible refine wpList_load_row_w ?_ 38 (.tmp 2) ?_ w.heap.size ?_ 38 m.cells.toArray (0, 0) _ HRA3.out Tryd.underlying38 ?_ HSA.out ?_); rfl; rfl; rfl; rfl)
  ((with_reducible refine HGA.out.mono ?_); rintro e w4 ⟨b, rfl, hk4, hg⟩)
  have HK4 := Lib.hid (HK3.out.trans hk4 (fun _ _ e => e))
  have HRA4 : Hid (w4.heap[w.heap.size]? = some (.cells m.cells.toArray 38 (0, 0))) := Lib.hid (hk4.obj HRA3.out (fun e => e))
  have HG := Lib.hid hg
  clear hk4 hg
  cases b with
  | true =>
    go_wp2
    go_ret
    exact ⟨rfl, HK4.out⟩
  | false =>
  have HGM := Lib.hid (HG.out rfl)
  clear HG HRA3
  have HWA := Lib.hid (wireWrite_any m w4 (HM.out.same HK4.out) (HNUM.out.keep HK4.out (fun e => e)))
  unfold WirePost at HWA
  go_wp2_with ((with_reducible refine wpList_load_row_w ?_ 38 (.tmp 2) ?_ w.heap.size ?_ 38 m.cells.toArray (0, 0) _ HRA4.out Tryd.underlying38 ?_ HSA.out ?_); rfl; rfl; rfl; rfl)
  ((with_reducible refine HWA.out.mono ?_); rintro e w6 ⟨hk6, hr⟩)
  have HK6 := Lib.hid (HK4.out.trans hk6 (fun _ _ e => e))
  have HRA6 : Hid (Whole w6 w.heap.size 38 m.cells) := Lib.hid (hk6.obj HRA4.out (fun e => e))
  clear hk6 HRA4
  rcases hr with ⟨hR, v, rfl, hown⟩ | ⟨hR, rfl⟩
  case inr =>
    clear hR
    go_wp2
    go_ret
    exact ⟨rfl, HK6.out⟩
  have HR := Lib.hid hR
  have hbl := (HM.out.good hR).bytes_le
  obtain ⟨g1, c1, rfl⟩ : ∃ g1 c1, v = .slice (some ⟨g1, 0, none⟩) m.bytes.length c1 := by
    rcases hown.2 with ⟨_, h0⟩ | ⟨g, cp, cur, h, _⟩
    · omega
    · exact ⟨g, cp, h⟩
  have HOX := Lib.hid hown
  obtain ⟨X, hX⟩ : ∃ X, m.bytes = X := ⟨_, rfl⟩
  rw [hX] at HOX hbl ⊢
  have HX := Lib.hid hX
  obtain ⟨L, hL⟩ : ∃ L, X.length = L := ⟨_, rfl⟩
  rw [hL] at HOX hbl ⊢
  have HL := Lib.hid hL
  obtain ⟨hb1, hb2⟩ := hbl
  obtain ⟨hq0, hq1⟩ := and_mask k
  have hcap := (own_capv HOX.out _ _ _ rfl)
  have hL0 : (0 : Int) < (L : Int) := by omega
  obtain ⟨n, hn⟩ : ∃ n : Nat, bits BinOp.and IntKind.i64 k 65535 % (L : Int) = (n : Int) := Int.eq_ofNat_of_zero_le (Int.emod_nonneg _ (by omega))
  have hn2 : (n : Int) < (L : Int) := by rw [← hn]; exact Int.emod_lt_of_pos _ (by omega)
  have hn3 : (n : Int) ≤ (c1 : Int) := by omega
  have HBX : Hid (Bytes w6 (.slice (some ⟨g1, 0, none⟩) L c1) X) := Lib.hid (Bytes.of_own' HOX.out HL.out)
  have hpl : (X.take n).length = n := by rw [List.length_take, HL.out]; omega
  have hpart : Bytes w6 (.slice (some ⟨g1, 0, none⟩) n c1) (X.take n) := Bytes.take HBX.out n (by rw [HL.out]; omega)
  have hrd := wireRead_any (some ⟨g1, 0, none⟩) c1 (X.take n) w6 (by rw [hpl]; exact hpart) (fun x e _ => by cases e; rfl) (by rw [hpl]; omega) (by rw [hpl]; omega) (fun e => by cases e) (HNUM.out.keep HK6.out (fun e => e))
  rw [hpl] at hrd
  unfold ReadPost at hrd
  have HRD := Lib.hid hrd
  have HPL := Lib.hid hpl
  clear hR hown hX hL hpart hrd hpl hcap
  go_wp2_with fail
  ((with_reducible refine HRD.out.mono ?_); rintro e w7 ⟨hk7, x, er, rfl, hxi, _, hxr⟩)
  have HXI := Lib.hid hxi
  have HXR := Lib.hid hxr
  have HK7 := Lib.hid (HK6.out.trans hk7 (fun _ _ e => e))
  have HXN : Hid (¬ x.Eqv m) := Lib.hid (cut_ne HR.out (by rw [HPL.out, HX.out, HL.out]; omega) hxr)
  obtain ⟨G7, hG7⟩ : ∃ G, w7.heap.size = G := ⟨_, rfl⟩
  obtain ⟨w8a, hw8a⟩ : ∃ wa, w7.alloc (.cells zeroM.cells.toArray 38) = wa := ⟨_, rfl⟩
  have HZ7 : Hid (w8a.heap[G7]? = some (.cells zeroM.cells.toArray 38 (0, 0))) := Lib.hid (by rw [← hw8a, ← hG7]; exact heap_alloc_new w7 _)
  obtain ⟨w8, hw8⟩ : ∃ w8, w8a.setRow G7 x.cells.toArray = w8 := ⟨_, rfl⟩
  have HW8 := Lib.hid hw8
  have hk8 : Same w7 w8 := by rw [← hw8, ← hw8a]; exact ((Keeps.refl _ _).alloc _).setRow _ _ (.inl (by omega))
  have HM8 : Hid (Whole w8 G7 38 x.cells) := Lib.hid (by rw [← hw8]; exact setRow_heap _ _ _ _ _ _ HZ7.out)
  have HSX := Lib.hid (Tryd.sizeMsgOf x hxi.hd)
  have HEX : Hid (zeroM.cells.toArray.size = x.cells.toArray.size) := Lib.hid (by rw [List.size_toArray, List.size_toArray, x.cells_length hxi.hd, zeroM.cells_length rfl])
  have HALX : Hid (x.cells.toArray.all (·.oneCell') = true) := Lib.hid x.cells_all
  have HK8 := Lib.hid (HK7.out.trans hk8 (fun _ _ e => e))
  have HBX8 : Hid (Bytes w8 (.slice (some ⟨g1, 0, none⟩) L c1) X) := Lib.hid ((HBX.out.same hk7).same hk8)
  have HX8 := Lib.hid (HXI.out.same hk8)
  have HRA8 : Hid (Whole w8 w.heap.size 38 m.cells) := Lib.hid ((HRA6.out.keep hk7 (fun e => e)).keep hk8 (fun e => e))
  -- the longer bytes
  obtain ⟨wE, hwE⟩ : ∃ wE, w8.alloc (.cells #[] 5) = wE := ⟨_, rfl⟩
  have hkE : Same w8 wE := by rw [← hwE]; exact (Keeps.refl _ _).alloc _
  have hownE : wE.ownsRow w8.heap.size 5 1 (.slice (some ⟨w8.heap.size, 0, none⟩) ([] : List UInt8).length 0) ([] : List UInt8).length (u8s []) := by rw [← hwE]; exact own_empty w8 _
  obtain ⟨ga, ca, wA, hrunA, hownA, hgA, _⟩ := run_append_bytes (P := Tryd.prog) wE 26 26 5 iu Tryd.underlying26 hiu HIU.out hu1 hu2 w8.heap.size w8.heap.size 0 [] X _ hownE (HBX8.out.same hkE) (by simp; have := HL.out; omega) hkE.size
  simp only [List.length_nil, Nat.zero_add, List.nil_append, HL.out] at hrunA hownA
  have hkA : Same w8 wA := by
    have h1 : Keeps (fun q => w8.heap.size ≤ q) wE wA := (Keeps.refl _ _).grown hgA (fun q e _ => by cases e; exact Nat.le_refl _)
    exact hkE.trans h1 (fun q hq e => by omega)
  obtain ⟨b, hb⟩ : ∃ b : UInt8, IntKind.u8.wrap k = (b.toNat : Int) := ⟨UInt8.ofNat (IntKind.u8.wrap k).toNat, by
    have h1 : 0 ≤ IntKind.u8.wrap k ∧ IntKind.u8.wrap k ≤ 255 := by
      simp [IntKind.wrap, IntKind.bits, IntKind.signed]; omega
    rw [UInt8.toNat_ofNat']; omega⟩
  obtain ⟨wL, hwL⟩ : ∃ wL, wA.alloc (.cells #[.int .u8 (b.toNat : Int)] 5) = wL := ⟨_, rfl⟩
  have hkL : Same wA wL := by rw [← hwL]; exact (Keeps.refl _ _).alloc _
  have hlit : Bytes wL (.slice (some ⟨wA.heap.size, 0, none⟩) 1 1) [b] := by rw [← hwL]; exact Bytes.of_block (heap_alloc_new wA _) rfl 1 1 rfl
  have hownL : wL.ownsRow w8.heap.size 5 1 (.slice (some ⟨ga, 0, none⟩) X.length ca) X.length (u8s X) := by rw [HL.out]; exact own_keeps hkL hownA (fun _ _ e => e)
  obtain ⟨gb, cb, wB, hrunB, hownB, hgB, _⟩ := run_append_bytes (P := Tryd.prog) wL 26 26 5 iu Tryd.underlying26 hiu HIU.out hu1 hu2 w8.heap.size ga ca X [b] _ hownL hlit (by simp; have := HL.out; omega) (by have := hkA.size; have := hkL.size; omega)
  have hXB : (X ++ [b]).length = L + 1 := by simp [HL.out]
  simp only [List.length_cons, List.length_nil, Nat.zero_add, HL.out] at hrunB hownB
  have hkB : Same w8 wB := by
    have h1 : Keeps (fun q => w8.heap.size ≤ q) wL wB := (Keeps.refl _ _).grown hgB (fun q e _ => by cases e; exact (hownL.lt ga rfl).1)
    exact (hkA.trans hkL (fun _ _ e => e)).trans h1 (fun q hq e => by omega)
  have HRUNA := Lib.hid hrunA
  have HRUNB := Lib.hid hrunB
  have hcapB := own_capv hownB _ _ _ rfl
  have hrd2 := wireRead_any (some ⟨gb, 0, none⟩) cb (X ++ [b]) wB (by rw [hXB]; exact Bytes.of_own' hownB hXB) (fun x e _ => by cases e; rfl) (by rw [hXB]; exact hcapB.1) (by rw [hXB]; omega) (fun e => by cases e) (HNUM.out.keep (HK8.out.trans hkB (fun _ _ e => e)) (fun e => e))
  rw [hXB] at hrd2
  unfold ReadPost at hrd2
  have HRD2 := Lib.hid hrd2
  have HXB := Lib.hid hXB
  have HKB := Lib.hid (HK8.out.trans hkB (fun _ _ e => e))
  have HXB2 := Lib.hid (HX8.out.same hkB)
  have HMB : Hid (Whole wB G7 38 x.cells) := Lib.hid (HM8.out.keep hkB (fun e => e))
  have HRAB : Hid (Whole wB w.heap.size 38 m.cells) := Lib.hid (HRA8.out.keep hkB (fun e => e))
  have HHB := Lib.hid hb
  clear hk7 hxi hxr hk8 hkE hownE hrunA hownA hgA hkA hkL hlit hownL hrunB hownB hgB hkB hcapB hrd2 hXB hw8 hiu hu1 hu2 HRD
  go_wp2_with (first
    | ((with_reducible refine wpList_store_row ?_ 38 (.tmp 8) (.tmp 36) ?_ G7 x.cells.toArray ?_ ?_ 38 zeroM.cells.toArray HZ7.out HSX.out HEX.out HALX.out ?_); rfl; rfl; rfl; rfl; rw [HW8.out])
    | ((with_reducible refine wpList_append_run ?_ (.tmp 39) (.tmp 40) 26 ?_ (.slice (some ⟨w8.heap.size, 0, none⟩) 0 0) (.slice (some ⟨g1, 0, none⟩) L c1) _ wA ?_ ?_ HRUNA.out ?_); rfl; rfl; rfl; rfl)
    | ((with_reducible refine wpList_append_run ?_ (.tmp 41) (.tmp 44) 26 ?_ (.slice (some ⟨ga, 0, none⟩) L ca) (.slice (some ⟨wA.heap.size, 0, none⟩) 1 1) _ wB ?_ ?_ HRUNB.out ?_); rfl; rfl; rfl; rfl))
  clear hG7 hw8a hwE hwL hb
  ((with_reducible refine HRD2.out.mono ?_); rintro e w9 ⟨hk9, y, er2, rfl, hyi, _, hyr⟩)
  have HYR := Lib.hid hyr
  have HYN : Hid (¬ y.Eqv m) := Lib.hid (cut_ne HR.out (by rw [HXB.out, HX.out, HL.out]; omega) hyr)
  obtain ⟨G9, hG9⟩ : ∃ G, w9.heap.size = G := ⟨_, rfl⟩
  obtain ⟨w10a, hw10a⟩ : ∃ wa, w9.alloc (.cells zeroM.cells.toArray 38) = wa := ⟨_, rfl⟩
  have HZ9 : Hid (w10a.heap[G9]? = some (.cells zeroM.cells.toArray 38 (0, 0))) := Lib.hid (by rw [← hw10a, ← hG9]; exact heap_alloc_new w9 _)
  obtain ⟨wz, hwz⟩ : ∃ wz, w10a.setRow G9 y.cells.toArray = wz := ⟨_, rfl⟩
  have HWZ := Lib.hid hwz
  have hkz : Same w9 wz := by rw [← hwz, ← hw10a]; exact ((Keeps.refl _ _).alloc _).setRow _ _ (.inl (by omega))
  have hk9z := hk9.trans hkz (fun _ _ e => e)
  have HKZ := Lib.hid (HKB.out.trans hk9z (fun _ _ e => e))
  have HMY : Hid (Whole wz G9 38 y.cells) := Lib.hid (by rw [← hwz]; exact setRow_heap _ _ _ _ _ _ HZ9.out)
  have HMX : Hid (Whole wz G7 38 x.cells) := Lib.hid (HMB.out.keep hk9z (fun e => e))
  have HMM : Hid (Whole wz w.heap.size 38 m.cells) := Lib.hid (HRAB.out.keep hk9z (fun e => e))
  have HSY := Lib.hid (Tryd.sizeMsgOf y hyi.hd)
  have HEY : Hid (zeroM.cells.toArray.size = y.cells.toArray.size) := Lib.hid (by rw [List.size_toArray, List.size_toArray, y.cells_length hyi.hd, zeroM.cells_length rfl])
  have HALY : Hid (y.cells.toArray.all (·.oneCell') = true) := Lib.hid y.cells_all
  have HXZ := Lib.hid (HXB2.out.same hk9z)
  have HYZ := Lib.hid (hyi.same hkz)
  have HMZ := Lib.hid (HM.out.same HKZ.out)
  have HRX : Hid (wz.heap[G7]? = some (.cells x.cells.toArray 38 (0, 0))) := Lib.hid HMX.out
  have HRM : Hid (wz.heap[w.heap.size]? = some (.cells m.cells.toArray 38 (0, 0))) := Lib.hid HMM.out
  have HRY : Hid (wz.heap[G9]? = some (.cells y.cells.toArray 38 (0, 0))) := Lib.hid HMY.out
  have small : ∀ {q : Msg} {bs : List UInt8} {er : Int}, ((q.Right ∧ q.bytes = bs ∧ er = 0) ∨ ((∀ m' : Msg, m'.Good → m'.bytes ≠ bs) ∧ q = zeroM ∧ er = 22)) → q.ns.length ≤ 140737488351232 ∧ q.hs.length ≤ 140737488351232 ∧ q.bs.length ≤ 140737488351232 := by
    intro q bs er hq
    rcases hq with ⟨h, _⟩ | ⟨_, h, _⟩
    · have h1 := h.hs
      have h2 := h.bs
      have h3 : q.ns.length ≤ 6 := by
        by_cases k2 : q.k = 2
        · exact (h.ansR k2).2.2.2.1
        · rw [(h.ansBlank k2).2.2.2]; simp
      omega
    · rw [h]; simp [zeroM]
  have HSMX := Lib.hid (sameMsg_any x m wz HXZ.out HMZ.out (small HXR.out))
  have HSMY : Hid (∀ w', Same wz w' → Calls Tryd.prog 14 #[.agg y.cells.toArray, .agg m.cells.toArray] w' (BoolPost w' (y.Eqv m))) := Lib.hid (fun w' k => sameMsg_any y m w' (HYZ.out.same k) (HMZ.out.same k) (small HYR.out))
  unfold BoolPost at HSMX HSMY
  clear hk9 hyi hyr hkz hk9z hwz small
  rcases HXR.out with ⟨hxR, hxB, rfl⟩ | ⟨hxN, hxz, rfl⟩
  · rcases HYR.out with ⟨hyR, hyB, rfl⟩ | ⟨hyN, hyz, rfl⟩
    · clear hxR hxB hyR hyB
      go_wp2_with (first
        | ((with_reducible refine wpList_store_row ?_ 38 (.tmp 10) (.tmp 47) ?_ G9 y.cells.toArray ?_ ?_ 38 zeroM.cells.toArray HZ9.out HSY.out HEY.out HALY.out ?_); rfl; rfl; rfl; rfl; rw [HWZ.out])
        | ((with_reducible refine wpList_load_row_w ?_ 38 (.tmp 8) ?_ G7 ?_ 38 x.cells.toArray (0, 0) _ HRX.out Tryd.underlying38 ?_ HSX.out ?_); rfl; rfl; rfl; rfl)
        | ((with_reducible refine wpList_load_row_w ?_ 38 (.tmp 2) ?_ w.heap.size ?_ 38 m.cells.toArray (0, 0) _ HRM.out Tryd.underlying38 ?_ HSA.out ?_); rfl; rfl; rfl; rfl))
      clear hG9 hw10a
      ((with_reducible refine HSMX.out.mono ?_); rintro e wa ⟨bx, rfl, hbx, hka⟩)
      obtain rfl : bx = false := by
        cases bx with
        | true => exact absurd (hbx.1 rfl) HXN.out
        | false => rfl
      have HRYA : Hid (wa.heap[G9]? = some (.cells y.cells.toArray 38 (0, 0))) := Lib.hid (hka.obj HRY.out (fun e => e))
      have HRMA : Hid (wa.heap[w.heap.size]? = some (.cells m.cells.toArray 38 (0, 0))) := Lib.hid (hka.obj HRM.out (fun e => e))
      have HSY2 := Lib.hid (HSMY.out wa hka)
      have HKA := Lib.hid (HKZ.out.trans hka (fun _ _ e => e))
      clear hbx hka
      go_wp2_with (first
        | ((with_reducible refine wpList_load_row_w ?_ 38 (.tmp 10) ?_ G9 ?_ 38 y.cells.toArray (0, 0) _ HRYA.out Tryd.underlying38 ?_ HSY.out ?_); rfl; rfl; rfl; rfl)
        | ((with_reducible refine wpList_load_row_w ?_ 38 (.tmp 2) ?_ w.heap.size ?_ 38 m.cells.toArray (0, 0) _ HRMA.out Tryd.underlying38 ?_ HSA.out ?_); rfl; rfl; rfl; rfl))
      ((with_reducible refine HSY2.out.mono ?_); rintro e wb ⟨by', rfl, hby, hkb⟩)
      obtain rfl : by' = false := by
        cases by' with
        | true => exact absurd (hby.1 rfl) HYN.out
        | false => rfl
      have HKB2 := Lib.hid (HKA.out.trans hkb (fun _ _ e => e))
      clear hby hkb
      go_wp2
      go_ret
      exact ⟨rfl, HKB2.out⟩
    · clear hxR hxB hyN hyz
      go_wp2_with (first
        | ((with_reducible refine wpList_store_row ?_ 38 (.tmp 10) (.tmp 47) ?_ G9 y.cells.toArray ?_ ?_ 38 zeroM.cells.toArray HZ9.out HSY.out HEY.out HALY.out ?_); rfl; rfl; rfl; rfl; rw [HWZ.out])
        | ((with_reducible refine wpList_load_row_w ?_ 38 (.tmp 8) ?_ G7 ?_ 38 x.cells.toArray (0, 0) _ HRX.out Tryd.underlying38 ?_ HSX.out ?_); rfl; rfl; rfl; rfl)
        | ((with_reducible refine wpList_load_row_w ?_ 38 (.tmp 2) ?_ w.heap.size ?_ 38 m.cells.toArray (0, 0) _ HRM.out Tryd.underlying38 ?_ HSA.out ?_); rfl; rfl; rfl; rfl))
      clear hG9 hw10a
      ((with_reducible refine HSMX.out.mono ?_); rintro e wa ⟨bx, rfl, hbx, hka⟩)
      obtain rfl : bx = false := by
        cases bx with
        | true => exact absurd (hbx.1 rfl) HXN.out
        | false => rfl
      have HRYA : Hid (wa.heap[G9]? = some (.cells y.cells.toArray 38 (0, 0))) := Lib.hid (hka.obj HRY.out (fun e => e))
      have HRMA : Hid (wa.heap[w.heap.size]? = some (.cells m.cells.toArray 38 (0, 0))) := Lib.hid (hka.obj HRM.out (fun e => e))
      have HSY2 := Lib.hid (HSMY.out wa hka)
      have HKA := Lib.hid (HKZ.out.trans hka (fun _ _ e => e))
      clear hbx hka
      go_wp2_with (first
        | ((with_reducible refine wpList_load_row_w ?_ 38 (.tmp 10) ?_ G9 ?_ 38 y.cells.toArray (0, 0) _ HRYA.out Tryd.underlying38 ?_ HSY.out ?_); rfl; rfl; rfl; rfl)
        | ((with_reducible refine wpList_load_row_w ?_ 38 (.tmp 2) ?_ w.heap.size ?_ 38 m.cells.toArray (0, 0) _ HRMA.out Tryd.underlying38 ?_ HSA.out ?_); rfl; rfl; rfl; rfl))
      ((with_reducible refine HSY2.out.mono ?_); rintro e wb ⟨by', rfl, hby, hkb⟩)
      obtain rfl : by' = false := by
        cases by' with
        | true => exact absurd (hby.1 rfl) HYN.out
        | false => rfl
      have HKB2 := Lib.hid (HKA.out.trans hkb (fun _ _ e => e))
      clear hby hkb
      go_wp2
      go_ret
      exact ⟨rfl, HKB2.out⟩
  · rcases HYR.out with ⟨hyR, hyB, rfl⟩ | ⟨hyN, hyz, rfl⟩
    · clear hyR hyB hxN hxz
      go_wp2_with (first
        | ((with_reducible refine wpList_store_row ?_ 38 (.tmp 10) (.tmp 47) ?_ G9 y.cells.toArray ?_ ?_ 38 zeroM.cells.toArray HZ9.out HSY.out HEY.out HALY.out ?_); rfl; rfl; rfl; rfl; rw [HWZ.out])
        | ((with_reducible refine wpList_load_row_w ?_ 38 (.tmp 8) ?_ G7 ?_ 38 x.cells.toArray (0, 0) _ HRX.out Tryd.underlying38 ?_ HSX.out ?_); rfl; rfl; rfl; rfl)
        | ((with_reducible refine wpList_load_row_w ?_ 38 (.tmp 2) ?_ w.heap.size ?_ 38 m.cells.toArray (0, 0) _ HRM.out Tryd.underlying38 ?_ HSA.out ?_); rfl; rfl; rfl; rfl))
      clear hG9 hw10a
      ((with_reducible refine HSMX.out.mono ?_); rintro e wa ⟨bx, rfl, hbx, hka⟩)
      obtain rfl : bx = false := by
        cases bx with
        | true => exact absurd (hbx.1 rfl) HXN.out
        | false => rfl
      have HRYA : Hid (wa.heap[G9]? = some (.cells y.cells.toArray 38 (0, 0))) := Lib.hid (hka.obj HRY.out (fun e => e))
      have HRMA : Hid (wa.heap[w.heap.size]? = some (.cells m.cells.toArray 38 (0, 0))) := Lib.hid (hka.obj HRM.out (fun e => e))
      have HSY2 := Lib.hid (HSMY.out wa hka)
      have HKA := Lib.hid (HKZ.out.trans hka (fun _ _ e => e))
      clear hbx hka
      go_wp2_with (first
        | ((with_reducible refine wpList_load_row_w ?_ 38 (.tmp 10) ?_ G9 ?_ 38 y.cells.toArray (0, 0) _ HRYA.out Tryd.underlying38 ?_ HSY.out ?_); rfl; rfl; rfl; rfl)
        | ((with_reducible refine wpList_load_row_w ?_ 38 (.tmp 2) ?_ w.heap.size ?_ 38 m.cells.toArray (0, 0) _ HRMA.out Tryd.underlying38 ?_ HSA.out ?_); rfl; rfl; rfl; rfl))
      ((with_reducible refine HSY2.out.mono ?_); rintro e wb ⟨by', rfl, hby, hkb⟩)
      obtain rfl : by' = false := by
        cases by' with
        | true => exact absurd (hby.1 rfl) HYN.out
        | false => rfl
      have HKB2 := Lib.hid (HKA.out.trans hkb (fun _ _ e => e))
      clear hby hkb
      go_wp2
      go_ret
      exact ⟨rfl, HKB2.out⟩
    · have HX0 := Lib.hid hxz
      have HY0 := Lib.hid hyz
      have HSX0 : Hid (Calls Tryd.prog 14 #[.agg x.cells.toArray, .agg zeroM.cells.toArray] wz (BoolPost wz (x.Eqv zeroM))) := Lib.hid (sameMsg_any x zeroM wz HXZ.out (zero_in _) (small0 HX0.out))
      have HSY0 : Hid (∀ w', Same wz w' → Calls Tryd.prog 14 #[.agg y.cells.toArray, .agg zeroM.cells.toArray] w' (BoolPost w' (y.Eqv zeroM))) := Lib.hid (fun w' k => sameMsg_any y zeroM w' (HYZ.out.same k) (zero_in _) (small0 HY0.out))
      unfold BoolPost at HSX0 HSY0
      clear hxN hyN hxz hyz
      go_wp2_with (first
        | ((with_reducible refine wpList_store_row ?_ 38 (.tmp 10) (.tmp 47) ?_ G9 y.cells.toArray ?_ ?_ 38 zeroM.cells.toArray HZ9.out HSY.out HEY.out HALY.out ?_); rfl; rfl; rfl; rfl; rw [HWZ.out])
        | ((with_reducible refine wpList_load_row_w ?_ 38 (.tmp 8) ?_ G7 ?_ 38 x.cells.toArray (0, 0) _ HRX.out Tryd.underlying38 ?_ HSX.out ?_); rfl; rfl; rfl; rfl))
      clear hG9 hw10a
      ((with_reducible refine HSX0.out.mono ?_); rintro e wa ⟨bx, rfl, hbx, hka⟩)
      obtain rfl : bx = true := hbx.2 (by rw [HX0.out]; exact Msg.Eqv.refl _)
      have HRYA : Hid (wa.heap[G9]? = some (.cells y.cells.toArray 38 (0, 0))) := Lib.hid (hka.obj HRY.out (fun e => e))
      have HKA := Lib.hid (HKZ.out.trans hka (fun _ _ e => e))
      have HSY2 := Lib.hid (HSY0.out wa hka)
      clear hbx hka
      go_wp2_with ((with_reducible refine wpList_load_row_w ?_ 38 (.tmp 10) ?_ G9 ?_ 38 y.cells.toArray (0, 0) _ HRYA.out Tryd.underlying38 ?_ HSY.out ?_); rfl; rfl; rfl; rfl)
      ((with_reducible refine HSY2.out.mono ?_); rintro e wb ⟨bx, rfl, hbx, hkb⟩)
      obtain rfl : bx = true := hbx.2 (by rw [HY0.out]; exact Msg.Eqv.refl _)
      have HKB2 := Lib.hid (HKA.out.trans hkb (fun _ _ e => e))
      clear hbx hkb
      go_wp2
      go_ret
      exact ⟨rfl, HKB2.out⟩
end Go.Proofs.YtcbkopjklbiheaaDoor
