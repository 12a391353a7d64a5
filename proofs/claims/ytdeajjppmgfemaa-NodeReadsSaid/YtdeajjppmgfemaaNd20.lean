/- The document's Read of an inner node, and of any bytes. -/
import Derived.Test.YtdeajjppmgfemaaNd19
namespace Go.Proofs.Ytdeajjppmgfemaa
open Go.RowKit
set_option linter.unusedVariables false

set_option maxRecDepth 100000 in
set_option maxHeartbeats 25600000 in
theorem refRead_inner (g off n c : Nat) (bs : List UInt8) (w : World) (hx : Bytes w (.slice (some ⟨g, off, none⟩) n c) bs) (hn : bs.length = n) (hc : n ≤ c) (b0 b1 b2 : UInt8) (e0 : bs[0]? = some b0) (e1 : bs[1]? = some b1) (e2 : bs[2]? = some b2) (h3 : 3 ≤ n) (h470 : n ≤ 470)
    (h84 : b0.toNat = 84) (L : Nat) (hL : b1.toNat = L) (hL1 : 1 ≤ L) (hL15 : L ≤ 15) :
    Calls Try.prog 14 #[.slice (some ⟨g, off, none⟩) n c] w (RdPost w bs) := by
  obtain ⟨j0, hj0, hy0, hy1, hy2⟩ := info_parts8 Try.infoPairR
  have HIO := Lib.hid Try.sizeNode3
  have HDR := Lib.hid (ref_no_many e0 e1 e2)
  obtain ⟨cnt, hcnt⟩ : ∃ q, b2.toNat = q := ⟨_, rfl⟩
  have hcl : cnt < 256 := by have := b2.toNat_lt; omega
  have c0 : w.cell? ⟨g, off, none⟩ = some (.int .u8 84) := by
    have := bytes_at hx e0
    rw [show (b0.toNat : Int) = 84 from by omega] at this
    exact this
  have c1 : w.cell? ⟨g, off + 1, none⟩ = some (.int .u8 (L : Int)) := by
    have := bytes_at hx e1
    rw [show (b1.toNat : Int) = (L : Int) from by omega] at this
    exact this
  have hgl := World.block_lt_of_cell? _ _ c0
  simp only at hgl
  obtain ⟨w0, hw0⟩ : ∃ w0, (w.alloc (.cells #[.int .i64 0, .slice none 0 0, .slice none 0 0] 25)).alloc (.cells #[.int .i64 0, .slice none 0 0, .slice none 0 0] 25) = w0 := ⟨_, rfl⟩
  have HB : Hid (NBegin w w0) := Lib.hid (by rw [← hw0]; exact NBegin.of w)
  have hsz0 := HB.out.size
  obtain ⟨w5, hw5⟩ : ∃ w5, (w0.alloc (.cells #[.int .i64 (L : Int), .slice none 0 0, .slice none 0 0] 25)).alloc (.cells #[.slice (some ⟨g, off, none⟩) n c, .int .i64 3] 69) = w5 := ⟨_, rfl⟩
  obtain ⟨G, hG⟩ : ∃ G, w.heap.size + 1 + 1 = G := ⟨_, rfl⟩
  obtain ⟨E, hE⟩ : ∃ E, w.heap.size + 1 + 1 + 1 = E := ⟨_, rfl⟩
  have hs05 : Same w0 w5 := by rw [← hw5]; exact ((Keeps.refl _ _).alloc _).alloc _
  have hN5 : NSr w0 w5 E G (some ⟨g, off, none⟩) c bs 3 (L : Int) (.slice none 0 0) (.slice none 0 0) w5.heap.size [] [] := by
    have q1 : w5.heap[w0.heap.size]? = some (.cells #[.int .i64 (L : Int), .slice none 0 0, .slice none 0 0] 25 (0, 0)) := by rw [← hw5]; exact heap_alloc2_old w0 _ _
    have q2 : w5.heap[w0.heap.size + 1]? = some (.cells #[.slice (some ⟨g, off, none⟩) n c, .int .i64 3] 69 (0, 0)) := by rw [← hw5]; exact heap_alloc2_new w0 _ _
    rw [show w0.heap.size = G from by omega] at q1
    rw [show w0.heap.size + 1 = E from by omega] at q2
    rw [← hn] at q2 h3
    have hxs : Bytes w5 (.slice (some ⟨g, off, none⟩) bs.length c) bs := by rw [hn]; exact (hx.same HB.out.same).same hs05
    have hz5 : w5.heap.size = w0.heap.size + 2 := by rw [← hw5]; simp
    exact ⟨⟨q2, hxs, h3, by omega, fun a e _ => by rw [← Option.some.inj e]; simp only; omega⟩, q1, PRow.nil _ _, KRow.nil _ _, hs05, by omega, by omega, ⟨by omega, by omega, by omega⟩, fun a e _ => by rw [← Option.some.inj e]; simp only; omega, Nat.le_refl _⟩
  have HN5 := Lib.hid hN5
  have HX := Lib.hid hx
  have HW5 : Hid ((((w.alloc (.cells #[.int .i64 0, .slice none 0 0, .slice none 0 0] 25)).alloc (.cells #[.int .i64 0, .slice none 0 0, .slice none 0 0] 25)).alloc (.cells #[.int .i64 (L : Int), .slice none 0 0, .slice none 0 0] 25)).alloc (.cells #[.slice (some ⟨g, off, none⟩) n c, .int .i64 3] 69) = w5) := Lib.hid (by rw [hw0]; exact hw5)
  have HGE : Hid (w.heap.size + 1 + 1 = G ∧ w.heap.size + 1 + 1 + 1 = E) := Lib.hid ⟨hG, hE⟩
  have HC2 : Hid (∀ w', Same w0 w' → w'.cell? ⟨g, off + 2, none⟩ = some (.int .u8 (cnt : Int))) := Lib.hid (fun w' k => by
    have := bytes_at ((hx.same HB.out.same).same k) e2
    rwa [hcnt] at this)
  have HCN := Lib.hid hcnt
  have HLV := Lib.hid hL
  have H84 := Lib.hid h84
  have HNN := Lib.hid hn
  have HE := Lib.hid (And.intro e0 (And.intro e1 e2))
  have g1 : ¬ (n : Int) < 3 := by omega
  have g2 : ¬ (470 : Int) < (n : Int) := by omega
  have g3 : (0 : Int) < (n : Int) ∧ (1 : Int) < (n : Int) ∧ (2 : Int) < (n : Int) := by omega
  have u1 : IntKind.i64.wrap (L : Int) = L := by have := IntWalk.i64_in (L : Int) (by omega); exact this
  have gL : ¬ (15 : Int) < (L : Int) := by omega
  have uc : IntKind.i64.wrap (cnt : Int) = cnt := by have := IntWalk.i64_in (cnt : Int) (by omega); exact this
  have hsz5 : w.heap.size + 3 < w5.heap.size := by have := hN5.hEb; omega
  have hEG : w.heap.size + 1 < G ∧ G < E := by omega
  clear hx hn e0 e1 e2 h84 hL hw0 hw5 hG hE hs05 hN5 hcnt
  go_enter Try.func14, Try.ntmps14
  go_wp2
  rw [HW5.out, HGE.out.2, HGE.out.1]
  clear c0 c1 HW5
  go_loopw [7] (fun i wr => ∃ (j pos : Nat) (u : Value) (ks : List KidX), j ≤ cnt ∧ i = .int .i64 j ∧ many (codecK.part bs) j 3 = some (kks ks, pos) ∧ NSr w0 wr E G (some ⟨g, off, none⟩) c bs pos (L : Int) (.slice none 0 0) u w5.heap.size [] ks) (fun i _ => cnt - (intOf i).toNat)
  case atStart => exact ⟨0, 3, .slice none 0 0, [], by omega, rfl, rfl, HN5.out⟩
  case round =>
    obtain ⟨j, pos, u, ks, hj, rfl, hmany, hst⟩ := hrel
    have HST := Lib.hid hst
    have HM := Lib.hid hmany
    have hjl : ks.length = j := by have := many_len _ hmany; rw [kks_length] at this; exact this
    have HJL := Lib.hid hjl
    have hc2 := HC2.out wr hst.same
    have hlen100 : bs.length ≤ 140737488351232 := by have := HNN.out; omega
    clear hst hmany HN5
    by_cases hlt : j < cnt
    · have hlt2 : (j : Int) < (cnt : Int) := by omega
      have hle : ks.length ≤ 255 := by omega
      clear hjl
      go_wp2_with fail
      ((with_reducible refine (reyetext_c E _ c bs pos _ HST.out.eye hlen100).mono ?_); rintro e w1 ⟨ko, kn, kc, er, rfl, hk1, hy1', hn1, hc1⟩)
      have H1 := Lib.hid (HST.out.call hk1 hy1')
      have hz1 := hk1.size
      have HN1 := Lib.hid hn1
      have HNL1 := Lib.hid HN1.out
      clear hy1' hn1 hc2
      rcases hc1 with ⟨q1, rfl, ho1⟩ | ⟨q1, rfl⟩
      case inr =>
        have HNO : Hid (∀ lv ps ks, NFit lv ps ks → nodeB lv.toNat ps ks ≠ bs) := Lib.hid (fun lv ps' ks' hf hb => by
          obtain ⟨h1, h2, h3⟩ := HDR.out lv ps' ks' hf hb
          rw [HCN.out] at h2 h3
          have hn := many_none' (many_stop HM.out (show codecK.part bs pos = none from by rw [codecK]; exact pair_none1 (txt_none q1))) (show j + 1 ≤ cnt by omega)
          obtain ⟨_, h4⟩ := h3 (by have := HLV.out; omega)
          rw [hn] at h4
          simp at h4)
        have HEND := Lib.hid (HB.out.over H1.out.same)
        have HR := Lib.hid (HB.out.r.keep H1.out.same (fun e => e))
        have n0 := (HB.out.n.keep H1.out.same (fun e => e)).cell (i := 0) rfl
        have n1 := (HB.out.n.keep H1.out.same (fun e => e)).cell (i := 1) rfl
        have n2 := (HB.out.n.keep H1.out.same (fun e => e)).cell (i := 2) rfl
        clear q1 hk1
        go_wp2_with (first
          | (refine wpList_store_row (by rfl) 25 _ _ (by rfl) w.heap.size node0.toArray (by rfl) (by rfl) 25 node0.toArray HR.out HIO.out rfl node0_all ?_))
        refine bodyPost_ret (v := .tuple #[.agg node0.toArray, .int .i64 22]) (results_row_tmp (p := 2) (u := 3) (ty := 25) rfl _ _ w.heap.size 25 _ (0, 0) _ (by rfl) HEND.out.2 Try.underlying25 rfl HIO.out) rfl
          (RdPost.no HEND.out.1 HNO.out)
      have HQ1 := Lib.hid q1
      have HO1 := Lib.hid ho1
      have HPV : Hid (∀ j, u.ownBlock = some j → j < wr.heap.size) := Lib.hid (fun j e => (HST.out.kr.own.lt j e).2)
      have hbw := HST.out.hb
      have l0 := H1.out.node.cell (i := 0) rfl
      have HK1 := Lib.hid hk1
      clear q1 ho1 hk1
      have gL0 : ((L : Int) == 0) = false := by simp; omega
      go_wp2_with fail
      ((with_reducible refine (reyeraw_c E _ c bs (txtTo bs pos) 32 _ _ H1.out.eye hlen100 (by omega) (by omega)).mono ?_); rintro e w2 ⟨r, er, rfl, hk2, hc2⟩)
      have HS12 : Hid (Same w0 w2) := Lib.hid (H1.out.same.trans hk2 (fun q hq e => by have := H1.out.hE; omega))
      have hz2 := hk2.size
      clear l0
      rcases hc2 with ⟨q2, rfl, hy2, gh, ch, rfl, ho2⟩ | ⟨q2, rfl⟩
      case inr =>
        have HNO : Hid (∀ lv ps ks, NFit lv ps ks → nodeB lv.toNat ps ks ≠ bs) := Lib.hid (fun lv ps' ks' hf hb => by
          obtain ⟨h1, h2, h3⟩ := HDR.out lv ps' ks' hf hb
          rw [HCN.out] at h2 h3
          have hn := many_none' (many_stop HM.out (show codecK.part bs pos = none from by rw [codecK]; exact pair_none2 (txt_some HQ1.out) (raw_part_none _ q2))) (show j + 1 ≤ cnt by omega)
          obtain ⟨_, h4⟩ := h3 (by have := HLV.out; omega)
          rw [hn] at h4
          simp at h4)
        have HEND := Lib.hid (HB.out.over HS12.out)
        have HR := Lib.hid (HB.out.r.keep HS12.out (fun e => e))
        have n0 := (HB.out.n.keep HS12.out (fun e => e)).cell (i := 0) rfl
        have n1 := (HB.out.n.keep HS12.out (fun e => e)).cell (i := 1) rfl
        have n2 := (HB.out.n.keep HS12.out (fun e => e)).cell (i := 2) rfl
        clear q2 hk2
        go_wp2_with (first
          | (refine wpList_store_row (by rfl) 25 _ _ (by rfl) w.heap.size node0.toArray (by rfl) (by rfl) 25 node0.toArray HR.out HIO.out rfl node0_all ?_))
        refine bodyPost_ret (v := .tuple #[.agg node0.toArray, .int .i64 22]) (results_row_tmp (p := 2) (u := 3) (ty := 25) rfl _ _ w.heap.size 25 _ (0, 0) _ (by rfl) HEND.out.2 Try.underlying25 rfl HIO.out) rfl
          (RdPost.no HEND.out.1 HNO.out)
      have H2 := Lib.hid (H1.out.call hk2 hy2)
      have hO12 : w2.ownsRow wr.heap.size 5 1 (.slice ko kn kc) kn (u8s (txtAt bs pos)) := own_keeps hk2 HO1.out (fun j e e2 => by
        have h1 := (HO1.out.lt j e).1
        have h2 := HST.out.eye.lt
        omega)
      have HO12 := Lib.hid hO12
      obtain ⟨hs, hhs⟩ : ∃ hs, (bs.drop (txtTo bs pos)).take 32 = hs := ⟨_, rfl⟩
      have hhl : hs.length = 32 := by rw [← hhs]; simp; omega
      rw [hhs] at ho2
      have HHS := Lib.hid hhs
      have HHL := Lib.hid hhl
      have HHR : Hid (w2.rangeAt gh 0 (u8s hs)) := Lib.hid (own_range ho2)
      have hgh : gh < w2.heap.size := (ho2.lt gh rfl).2
      have HQ2 := Lib.hid q2
      obtain ⟨p, hp⟩ : ∃ p : KidX, p = ⟨.slice ko kn kc, txtAt bs pos, hs⟩ := ⟨_, rfl⟩
      have HP := Lib.hid hp
      have hbw2 := H2.out.hb
      clear hk2 hy2 hO12 ho2 q2 hhs hhl hp
      obtain ⟨KB, hKB⟩ : ∃ k, w2.heap.size = k := ⟨_, rfl⟩
      obtain ⟨w3, hw3⟩ : ∃ w3, (w2.alloc (.cells kid0.toArray 46)).setRow w2.heap.size (Value.slice ko kn kc :: u8s (List.replicate 32 0)).toArray = w3 := ⟨_, rfl⟩
      have hq3 : Whole w3 KB 46 (Value.slice ko kn kc :: u8s (List.replicate 32 0)) := by rw [← hw3, ← hKB]; exact Whole.row (cs := kid0) (heap_alloc_new w2 _)
      have hs3 : Same w2 w3 := by rw [← hw3]; exact ((Keeps.refl _ _).alloc _).setRow _ _ (.inl (Nat.le_refl _))
      have HN1 : Hid ((w2.alloc (.cells kid0.toArray 46)).heap[w2.heap.size]? = some (.cells kid0.toArray 46 (0, 0))) := Lib.hid (heap_alloc_new w2 _)
      have HSZ2 : Hid ((Try.prog.info? 46).map (fun i => i.size) = some (Value.slice ko kn kc :: u8s (List.replicate 32 0)).toArray.size) := Lib.hid (by rw [Try.infoKid]; simp [u8s_length])
      have HSE : Hid (kid0.toArray.size = (Value.slice ko kn kc :: u8s (List.replicate 32 0)).toArray.size) := Lib.hid (by simp [kid0, u8s_length])
      have HAL : Hid ((Value.slice ko kn kc :: u8s (List.replicate 32 0)).toArray.all (·.oneCell') = true) := Lib.hid (kid_all ⟨.slice ko kn kc, [], List.replicate 32 0⟩ ko kn kc rfl)
      have HW3 := Lib.hid hw3
      have HQ3 := Lib.hid hq3
      have HS3 := Lib.hid hs3
      have HKB := Lib.hid hKB
      have hzk := Try.zeroKid
      have HBK := Lib.hid (built_kid1 ko kn kc)
      clear hw3 hq3 hs3 hKB
      go_wp2_with (first
        | (refine wpList_buildTo (by rfl) 46 _ (by rfl) _ (by rfl) (Value.slice ko kn kc :: u8s (List.replicate 32 0)).toArray HBK.out ?_)
        | (refine wpList_store_row (by rfl) 46 _ _ (by rfl) w2.heap.size (Value.slice ko kn kc :: u8s (List.replicate 32 0)).toArray (by rfl) (by rfl) 46 kid0.toArray HN1.out HSZ2.out HSE.out HAL.out ?_; rw [HW3.out]))
      rw [HKB.out]
      obtain ⟨wo, rfl⟩ : ∃ wo : World, wo = wr := ⟨_, rfl⟩
      go_loopw [15] (fun i wq => ∃ q : Nat, q ≤ 32 ∧ i = .int .i64 q ∧ Whole wq KB 46 (Value.slice ko kn kc :: u8s (hs.take q ++ (List.replicate 32 0).drop q)) ∧ Same w2 wq) (fun i _ => 32 - (intOf i).toNat)
      case atStart => exact ⟨0, by omega, rfl, by simpa using HQ3.out, HS3.out⟩
      case round =>
        obtain ⟨q, hq, rfl, hwq, hsq⟩ := hrel
        have HWQ := Lib.hid hwq
        have HSQ := Lib.hid hsq
        clear hwq hsq
        by_cases hq32 : q < 32
        · have hq32i : (q : Int) < 32 := by omega
          have hql : q < hs.length := by rw [HHL.out]; exact hq32
          have hcell : wr.cell? ⟨gh, q, none⟩ = some (.int .u8 (hs[q].toNat : Int)) := by
            have := range_same HHR.out HSQ.out q (.int .u8 (hs[q].toNat : Int)) (by simp [u8s, hql])
            rwa [Nat.zero_add] at this
          have hkc : (wr.cell? ⟨KB, 1 + q, none⟩).isSome = true ∧ wr.frozen? ⟨KB, 1 + q, none⟩ = false := by
            refine ⟨?_, HWQ.out.free _⟩
            have hl : 1 + q < (Value.slice ko kn kc :: u8s (hs.take q ++ (List.replicate 32 0).drop q)).length := by
              simp [u8s_length]; omega
            rw [HWQ.out.cell (List.getElem?_eq_getElem hl)]; rfl
          have hfz := hkc.2
          obtain ⟨ov, hov⟩ := Option.isSome_iff_exists.1 hkc.1
          have HST9 : Hid ((Value.slice ko kn kc :: u8s (hs.take q ++ (List.replicate 32 0).drop q)).set (1 + q) (.int .u8 (hs[q].toNat : Int)) = Value.slice ko kn kc :: u8s (hs.take (q + 1) ++ (List.replicate 32 0).drop (q + 1))) := Lib.hid (by
            rw [Nat.add_comm 1 q, List.set_cons_succ]
            congr 1
            have h1 : (hs.take q).length = q := by rw [List.length_take]; omega
            have h2 : (u8s (hs.take q ++ (List.replicate 32 0).drop q)).set q (.int .u8 (hs[q].toNat : Int)) = u8s ((hs.take q ++ (List.replicate 32 0).drop q).set q hs[q]) := (u8s_set _ _ _).symm
            rw [h2]
            congr 1
            have h3 : (List.replicate 32 (0 : UInt8)).drop q = 0 :: (List.replicate 32 0).drop (q + 1) := by
              rw [List.drop_eq_getElem_cons (by rw [List.length_replicate]; exact hq32), List.getElem_replicate]
            rw [h3, List.set_append_right _ _ (by omega), h1, Nat.sub_self, List.set_cons_zero, List.take_succ_eq_append_getElem hql, List.append_assoc]
            rfl)
          have HW9 : Hid (Whole (wr.setCell ⟨KB, 1 + q, none⟩ (.int .u8 (hs[q].toNat : Int))) KB 46 (Value.slice ko kn kc :: u8s (hs.take (q + 1) ++ (List.replicate 32 0).drop (q + 1)))) := Lib.hid (by rw [← HST9.out]; exact HWQ.out.set _ _)
          have HS9 : Hid (Same w2 (wr.setCell ⟨KB, 1 + q, none⟩ (.int .u8 (hs[q].toNat : Int)))) := Lib.hid (HSQ.out.setCell _ _ (.inl (by have := HKB.out; simp only; omega)))
          generalize hs[q] = hq9 at *
          clear hkc hql
          go_wp2
          go_roundw
          case rel => exact ⟨q + 1, by omega, by go_num, HW9.out, HS9.out⟩
          case measure => simp [intOf]; omega
        · obtain rfl : q = 32 := by omega
          have hnl : ¬ ((32 : Nat) : Int) < 32 := by omega
          have HWP : Hid (Whole wr KB 46 p.cells) := Lib.hid (by
            have h := HWQ.out
            rw [List.take_of_length_le (by rw [HHL.out]; exact Nat.le_refl _), List.drop_of_length_le (by simp), List.append_nil] at h
            rw [HP.out]; exact h)
          have H9 := Lib.hid (H2.out.keepB HSQ.out)
          have HPL : Hid (p.hs.length = 32) := Lib.hid (by rw [HP.out]; exact HHL.out)
          have HIS : Hid ((Try.prog.info? 46).map (fun i => i.size) = some p.cells.toArray.size) := Lib.hid (Try.infoKid.trans (congrArg some (by rw [List.size_toArray, p.cells_length HPL.out])))
          obtain ⟨ie, hie, hj0', hj1', hj2'⟩ := info_parts8 Try.infoKidR
          have HZK := Lib.hid hj0'
          have HCL : Hid (p.cells.toArray.size = 33) := Lib.hid (by rw [List.size_toArray, p.cells_length HPL.out])
          obtain ⟨gg, cc, w9, hrun, hk9, hkr⟩ := kid_append (p := p) (base := w5.heap.size) (G := wr.heap.size) (H9.out.kr.same ((Keeps.refl (fun _ => False) wr).alloc (.cells p.cells.toArray 46)))
            (by rw [HP.out]; exact ((Bytes.of_own (by rw [HNL1.out]; exact HO12.out)).same HSQ.out).same ((Keeps.refl _ _).alloc _)) (by rw [HP.out]; exact textFar_own HO12.out HPV.out hbw) HPL.out (by rw [HP.out]) (by omega) (heap_alloc_new wr _) (by have := H9.out.hb; simp; omega)
          have hka : Keeps (fun q => u.ownBlock = some q) wr w9 := ((Keeps.refl _ wr).alloc _).trans hk9 (fun _ _ e => e)
          have hG9 := H9.out.node.keep hka (fun e => by have := (H9.out.kr.own.lt G e).1; have := H9.out.hEb; omega)
          have cG := hG9.cell (i := 2) rfl
          have fG := hG9.free 2
          have cK := H9.out.node.cell (i := 2) rfl
          have HRUN := Lib.hid hrun
          have HNS : Hid (NSr w0 (w9.setCell ⟨G, 2, none⟩ (.slice (some ⟨gg, 0, none⟩) (ks.length + 1) cc)) E G (some ⟨g, off, none⟩) c bs (txtTo bs pos + 32) (L : Int) (.slice none 0 0) (.slice (some ⟨gg, 0, none⟩) (ks.length + 1) cc) w5.heap.size [] (ks ++ [p])) := Lib.hid (H9.out.setk hka (PRow.nil _ _) hkr)
          have HM6 : Hid (many (codecK.part bs) (j + 1) 3 = some (kks (ks ++ [p]), txtTo bs pos + 32)) := Lib.hid (by
            rw [many_go HM.out (show codecK.part bs pos = some ((txtAt bs pos, hs), txtTo bs pos + 32) from by rw [codecK, ← HHS.out]; exact pair_some (txt_some HQ1.out) (raw_part _ HQ2.out))]
            simp [kks, HP.out])
          clear hrun hk9 hkr hka hG9 hj0'
          go_wp2_with (first
            | (refine wpList_load_row (by rfl) 46 _ (by rfl) KB (by rfl) 46 p.cells.toArray (0, 0) _ HWP.out Try.underlying46 rfl HIS.out ?_)
            | (refine wpList_buildOne (by rfl) 23 46 _ (by rfl) p.cells.toArray ie _ (by rfl) Try.underlying23 hie HZK.out (by rw [hj1', HCL.out]) (by rw [HCL.out]; omega) (by rw [HCL.out]; omega) ?_)
            | (at_builtin; refine wpList_append_run (by rfl) _ _ 23 (by rfl) _ _ _ w9 (by rfl) (by rfl) HRUN.out ?_))
          go_roundw
          case rel => exact ⟨j + 1, txtTo bs pos + 32, .slice (some ⟨gg, 0, none⟩) (ks.length + 1) cc, ks ++ [p], by omega, by go_num, HM6.out, HNS.out⟩
          case measure => simp [intOf]; omega
    · obtain rfl : j = cnt := by omega
      have hlt2 : ¬ (j : Int) < (j : Int) := by omega
      obtain ⟨ao2, c2, rfl, hprs, hcap⟩ := HST.out.kr.kids
      have hsp1 := many_split codecK bs 3 (by have := HNN.out; omega) j HM.out
      have HSP1 := Lib.hid hsp1
      have HUN : Hid (∀ lv ps' ks', NFit lv ps' ks' → nodeB lv.toNat ps' ks' = bs → NFit (L : Int) (kvs []) (kks ks) ∧ pos = bs.length) := Lib.hid (fun lv ps' ks' hf hb => by
        obtain ⟨h1, h2, h3⟩ := HDR.out lv ps' ks' hf hb
        rw [HCN.out] at h2 h3
        obtain ⟨h5, h4⟩ := h3 (by have := HLV.out; omega)
        rw [HM.out] at h4
        simp only [Option.some.injEq, Prod.mk.injEq] at h4
        rw [h5, ← h4.1, h1] at hf
        rw [show (b1.toNat : Int) = (L : Int) from by have := HLV.out; omega] at hf
        exact ⟨hf, h4.2⟩)
      have HNA : Hid (NodeAt wr none ao2 [] ks 0 c2) := Lib.hid ⟨.inl rfl, hprs, Nat.le_refl _, hcap⟩
      have HEND := Lib.hid (HB.out.over HST.out.same)
      have HR := Lib.hid (HB.out.r.keep HST.out.same (fun e => e))
      have n0 := (HB.out.n.keep HST.out.same (fun e => e)).cell (i := 0) rfl
      have n1 := (HB.out.n.keep HST.out.same (fun e => e)).cell (i := 1) rfl
      have n2 := (HB.out.n.keep HST.out.same (fun e => e)).cell (i := 2) rfl
      have cE := (cell_of_two HST.out.eye.obj).2.1
      have cG0 := HST.out.node.cell (i := 0) rfl
      have cG1 := HST.out.node.cell (i := 1) rfl
      have cG2 := HST.out.node.cell (i := 2) rfl
      clear hprs hsp1 hjl
      by_cases hpn : pos = n
      case neg =>
        have HNO : Hid (∀ lv ps ks, NFit lv ps ks → nodeB lv.toNat ps ks ≠ bs) := Lib.hid (fun lv ps' ks' hf hb => hpn ((HUN.out lv ps' ks' hf hb).2.trans HNN.out))
        have gp : ((pos : Int) == (n : Int)) = false := by simp; omega
        have gpa : ¬ (pos : Int) = (n : Int) := by omega
        have gpb : ((pos : Int) != (n : Int)) = true := by simp; omega
        clear hpn
        go_wp2_with (first
          | (refine wpList_store_row (by rfl) 25 _ _ (by rfl) w.heap.size node0.toArray (by rfl) (by rfl) 25 node0.toArray HR.out HIO.out rfl node0_all ?_))
        refine bodyPost_ret (v := .tuple #[.agg node0.toArray, .int .i64 22]) (results_row_tmp (p := 2) (u := 3) (ty := 25) rfl _ _ w.heap.size 25 _ (0, 0) _ (by rfl) HEND.out.2 Try.underlying25 rfl HIO.out) rfl
          (RdPost.no HEND.out.1 HNO.out)
      subst hpn
      go_wp2_with fail
      ((with_reducible refine (refright_any (L : Int) none ao2 0 0 ks.length c2 [] ks _ HNA.out rfl rfl (by have := HJL.out; omega) (by have := HJL.out; omega)).mono ?_); rintro e w9 ⟨b, rfl, hk9, hb⟩)
      have HR9 := Lib.hid (HR.out.keep hk9 (fun e => e))
      have H9 := Lib.hid (HST.out.keepB hk9)
      have HS9 := Lib.hid ((HB.out.same.trans HST.out.same (fun _ _ e => e)).trans hk9 (fun _ _ e => e))
      clear n0 n1 n2 cE cG0 cG1 cG2
      cases b with
      | false =>
        have HNO : Hid (∀ lv ps ks, NFit lv ps ks → nodeB lv.toNat ps ks ≠ bs) := Lib.hid (fun lv ps' ks' hf hb2 => by
          have := hb.2 (HUN.out lv ps' ks' hf hb2).1.1
          simp at this)
        have HEND9 := Lib.hid (HB.out.over (HST.out.same.trans hk9 (fun _ _ e => e)))
        have n0 := (HB.out.n.keep H9.out.same (fun e => e)).cell (i := 0) rfl
        have n1 := (HB.out.n.keep H9.out.same (fun e => e)).cell (i := 1) rfl
        have n2 := (HB.out.n.keep H9.out.same (fun e => e)).cell (i := 2) rfl
        clear hb hk9
        go_wp2_with (first
          | (refine wpList_store_row (by rfl) 25 _ _ (by rfl) w.heap.size node0.toArray (by rfl) (by rfl) 25 node0.toArray HR9.out HIO.out rfl node0_all ?_))
        refine bodyPost_ret (v := .tuple #[.agg node0.toArray, .int .i64 22]) (results_row_tmp (p := 2) (u := 3) (ty := 25) rfl _ _ w.heap.size 25 _ (0, 0) _ (by rfl) HEND9.out.2 Try.underlying25 rfl HIO.out) rfl
          (RdPost.no HEND9.out.1 HNO.out)
      | true =>
        have hwhole : nodeB (L : Int).toNat (kvs []) (kks ks) = bs := by
          have h1 := node_of_rd (bs := bs) (lv := L) (ps := []) (ks := kks ks) (by have := HNN.out; omega) (by have := (numAt_one HE.out.1).1; have := H84.out; omega) (by have := (numAt_one HE.out.2.1).1; have := HLV.out; omega)
            (.inr ⟨rfl, by rw [(numAt_one HE.out.2.2).1, HCN.out, HM.out, HNN.out]⟩)
          exact h1
        have HFT : Hid (NFit (L : Int) (kvs []) (kks ks)) := Lib.hid ⟨hb.1 rfl, fun k hk => (HSP1.out.2.2.2 k hk).2, by rw [hwhole]; have := HNN.out; omega⟩
        have HWH := Lib.hid hwhole
        have cG0 := H9.out.node.cell (i := 0) rfl
        have cG1 := H9.out.node.cell (i := 1) rfl
        have cG2 := H9.out.node.cell (i := 2) rfl
        have HEND9 : Hid (Same w (w9.setRow w.heap.size ([.int .i64 (L : Int), .slice none 0 0, .slice ao2 ks.length c2] : List Value).toArray) ∧ Whole (w9.setRow w.heap.size ([.int .i64 (L : Int), .slice none 0 0, .slice ao2 ks.length c2] : List Value).toArray) w.heap.size 25 [.int .i64 (L : Int), .slice none 0 0, .slice ao2 ks.length c2]) := Lib.hid
          ⟨HS9.out.setRow _ _ (.inl (Nat.le_refl _)), HR9.out.row⟩
        have HFIN : Hid (∀ (S : Nat → Prop) w'', Keeps S (w9.setRow w.heap.size ([.int .i64 (L : Int), .slice none 0 0, .slice ao2 ks.length c2] : List Value).toArray) w'' → (∀ j, S j → j < w.heap.size) → NodeAt w'' none ao2 [] ks 0 c2) := Lib.hid (fun S w'' k hS => by
          have k2 : Keeps (fun j => j = w.heap.size ∨ S j) w9 w'' := (((Keeps.refl (fun j => j = w.heap.size) w9).setRow _ _ (.inr rfl)).mono (fun _ _ e => .inl e)).trans (k.mono (fun _ _ e => .inr e)) (fun _ _ e => e)
          have h9 := H9.out.kr.keep k2 (fun j e => by
            rcases e with e | e
            · omega
            · have := hS j e; omega)
          obtain ⟨ao3, c3, e3, hp3, hc3⟩ := h9.kids
          simp only [Value.slice.injEq] at e3
          obtain ⟨rfl, _, rfl⟩ := e3
          exact ⟨.inl rfl, hp3, Nat.le_refl _, hc3⟩)
        clear hb hk9 hwhole
        go_wp2_with (first
          | (refine wpList_store_row (by rfl) 25 _ _ (by rfl) w.heap.size ([.int .i64 (L : Int), .slice none 0 0, .slice ao2 ks.length c2] : List Value).toArray (by rfl) (by rfl) 25 node0.toArray HR9.out HIO.out rfl (node_all _ _ _ _ _ _ _) ?_))
        refine bodyPost_ret (v := .tuple #[.agg ([.int .i64 (L : Int), .slice none 0 0, .slice ao2 ks.length c2] : List Value).toArray, .int .i64 0]) (results_row_tmp (p := 2) (u := 3) (ty := 25) rfl _ _ w.heap.size 25 _ (0, 0) _ (by rfl) HEND9.out.2 Try.underlying25 rfl HIO.out) rfl
          ⟨HEND9.out.1, (L : Int), none, 0, ao2, c2, [], ks, 0, rfl, .inl ⟨HFT.out, HWH.out, rfl⟩, HFIN.out⟩

theorem refRead_any (ao : Option Addr) (n c : Nat) (bs : List UInt8) (w : World) (hx : Bytes w (.slice ao n c) bs) (hsp : ∀ x, ao = some x → bs ≠ [] → x.spot = none) (hn : bs.length = n) (hc : n ≤ c) :
    Calls Try.prog 14 #[.slice ao n c] w (RdPost w bs) := by
  by_cases h3 : n < 3
  · exact refNode_short ao n c bs w hn h3
  by_cases h470 : 470 < n
  · exact refNode_long ao n c bs w hn h470
  have hne : bs ≠ [] := fun e => by rw [e] at hn; simp at hn; omega
  have e0 : bs[0]? = some bs[0] := List.getElem?_eq_getElem (by omega)
  have e1 : bs[1]? = some bs[1] := List.getElem?_eq_getElem (by omega)
  have e2 : bs[2]? = some bs[2] := List.getElem?_eq_getElem (by omega)
  generalize bs[0] = b0 at e0
  generalize bs[1] = b1 at e1
  generalize bs[2] = b2 at e2
  obtain ⟨a, rfl⟩ : ∃ a, ao = some a := by
    cases ao with
    | some a => exact ⟨a, rfl⟩
    | none =>
      rcases hx with ⟨a, c', e, _⟩ | ⟨c', e, h⟩
      · simp at e
      · exact absurd h hne
  obtain ⟨g, off, spot⟩ := a
  have hs := hsp _ rfl hne
  simp only at hs
  subst hs
  by_cases h84 : b0.toNat = 84
  · by_cases h15 : 15 < b1.toNat
    · exact refNode_level g off n c bs w hx hn b0 b1 e0 e1 (by omega) (by omega) h84 h15
    · by_cases h0 : b1.toNat = 0
      · exact refRead_leaf g off n c bs w hx hn hc b0 b1 b2 e0 e1 e2 (by omega) (by omega) h84 h0
      · exact refRead_inner g off n c bs w hx hn hc b0 b1 b2 e0 e1 e2 (by omega) (by omega) h84 _ rfl (by omega) (by omega)
  · exact refNode_mark g off n c bs w hx hn b0 b1 e0 e1 (by omega) (by omega) h84
end Go.Proofs.Ytdeajjppmgfemaa
