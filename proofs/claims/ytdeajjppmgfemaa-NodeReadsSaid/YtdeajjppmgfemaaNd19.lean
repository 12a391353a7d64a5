/- What the document's Read of a leaf does. -/
import Derived.Test.YtdeajjppmgfemaaNd18
namespace Go.Proofs.Ytdeajjppmgfemaa
open Go.RowKit
set_option linter.unusedVariables false

theorem built_kid1 (ao : Option Addr) (n c : Nat) : Try.prog.built 46 [(0, .slice ao n c)] = some (Value.slice ao n c :: u8s (List.replicate 32 0)).toArray := by
  kernel_rfl
theorem ref_no_many {bs : List UInt8} {b0 b1 b2 : UInt8} (e0 : bs[0]? = some b0) (e1 : bs[1]? = some b1) (e2 : bs[2]? = some b2) : ∀ (lv : Int) (ps ks : List (List UInt8 × List UInt8)), NFit lv ps ks → nodeB lv.toNat ps ks = bs →
    lv = (b1.toNat : Int) ∧ (lv = 0 → ks = [] ∧ many (codecP.part bs) b2.toNat 3 = some (ps, bs.length)) ∧ (lv ≠ 0 → ps = [] ∧ many (codecK.part bs) b2.toNat 3 = some (ks, bs.length)) := by
  have h0 := numAt_one e0
  have h1 := numAt_one e1
  have h2 := numAt_one e2
  exact hdr_of (p1 := 1) (p2 := 2) (p3 := 3) h0.2 h1.2 h2.2 h1.1 h2.1

set_option maxRecDepth 100000 in
set_option maxHeartbeats 25600000 in
theorem refRead_leaf (g off n c : Nat) (bs : List UInt8) (w : World) (hx : Bytes w (.slice (some ⟨g, off, none⟩) n c) bs) (hn : bs.length = n) (hc : n ≤ c) (b0 b1 b2 : UInt8) (e0 : bs[0]? = some b0) (e1 : bs[1]? = some b1) (e2 : bs[2]? = some b2) (h3 : 3 ≤ n) (h470 : n ≤ 470)
    (h84 : b0.toNat = 84) (hL : b1.toNat = 0) :
    Calls Try.prog 14 #[.slice (some ⟨g, off, none⟩) n c] w (RdPost w bs) := by
  obtain ⟨j0, hj0, hy0, hy1, hy2⟩ := info_parts8 Try.infoPairR
  have HIO := Lib.hid Try.sizeNode3
  have HDR := Lib.hid (ref_no_many e0 e1 e2)
  obtain ⟨cnt, hcnt⟩ : ∃ q, b2.toNat = q := ⟨_, rfl⟩
  have hcl : cnt < 256 := by have := b2.toNat_lt; omega
  have c0 : w.cell? ⟨g, off, none⟩ = some (.int .u8 84) := by
    have := bytes_at hx e0
    rw [show (b0.toNat : Int) = 84 from by omega] at this
    exact this
  have c1 : w.cell? ⟨g, off + 1, none⟩ = some (.int .u8 0) := by
    have := bytes_at hx e1
    rw [show (b1.toNat : Int) = 0 from by omega] at this
    exact this
  have hgl := World.block_lt_of_cell? _ _ c0
  simp only at hgl
  obtain ⟨w0, hw0⟩ : ∃ w0, (w.alloc (.cells #[.int .i64 0, .slice none 0 0, .slice none 0 0] 25)).alloc (.cells #[.int .i64 0, .slice none 0 0, .slice none 0 0] 25) = w0 := ⟨_, rfl⟩
  have HB : Hid (NBegin w w0) := Lib.hid (by rw [← hw0]; exact NBegin.of w)
  have hsz0 := HB.out.size
  obtain ⟨w5, hw5⟩ : ∃ w5, (w0.alloc (.cells #[.int .i64 0, .slice none 0 0, .slice none 0 0] 25)).alloc (.cells #[.slice (some ⟨g, off, none⟩) n c, .int .i64 3] 69) = w5 := ⟨_, rfl⟩
  obtain ⟨G, hG⟩ : ∃ G, w.heap.size + 1 + 1 = G := ⟨_, rfl⟩
  obtain ⟨E, hE⟩ : ∃ E, w.heap.size + 1 + 1 + 1 = E := ⟨_, rfl⟩
  have hs05 : Same w0 w5 := by rw [← hw5]; exact ((Keeps.refl _ _).alloc _).alloc _
  have hN5 : NSr w0 w5 E G (some ⟨g, off, none⟩) c bs 3 0 (.slice none 0 0) (.slice none 0 0) w5.heap.size [] [] := by
    have q1 : w5.heap[w0.heap.size]? = some (.cells #[.int .i64 0, .slice none 0 0, .slice none 0 0] 25 (0, 0)) := by rw [← hw5]; exact heap_alloc2_old w0 _ _
    have q2 : w5.heap[w0.heap.size + 1]? = some (.cells #[.slice (some ⟨g, off, none⟩) n c, .int .i64 3] 69 (0, 0)) := by rw [← hw5]; exact heap_alloc2_new w0 _ _
    rw [show w0.heap.size = G from by omega] at q1
    rw [show w0.heap.size + 1 = E from by omega] at q2
    rw [← hn] at q2 h3
    have hxs : Bytes w5 (.slice (some ⟨g, off, none⟩) bs.length c) bs := by rw [hn]; exact (hx.same HB.out.same).same hs05
    have hz5 : w5.heap.size = w0.heap.size + 2 := by rw [← hw5]; simp
    exact ⟨⟨q2, hxs, h3, by omega, fun a e _ => by rw [← Option.some.inj e]; simp only; omega⟩, q1, PRow.nil _ _, KRow.nil _ _, hs05, by omega, by omega, ⟨by omega, by omega, by omega⟩, fun a e _ => by rw [← Option.some.inj e]; simp only; omega, Nat.le_refl _⟩
  have HN5 := Lib.hid hN5
  have HX := Lib.hid hx
  have HW5 : Hid ((((w.alloc (.cells #[.int .i64 0, .slice none 0 0, .slice none 0 0] 25)).alloc (.cells #[.int .i64 0, .slice none 0 0, .slice none 0 0] 25)).alloc (.cells #[.int .i64 0, .slice none 0 0, .slice none 0 0] 25)).alloc (.cells #[.slice (some ⟨g, off, none⟩) n c, .int .i64 3] 69) = w5) := Lib.hid (by rw [hw0]; exact hw5)
  have HGE : Hid (w.heap.size + 1 + 1 = G ∧ w.heap.size + 1 + 1 + 1 = E) := Lib.hid ⟨hG, hE⟩
  have HC2 : Hid (∀ w', Same w0 w' → w'.cell? ⟨g, off + 2, none⟩ = some (.int .u8 (cnt : Int))) := Lib.hid (fun w' k => by
    have := bytes_at ((hx.same HB.out.same).same k) e2
    rwa [hcnt] at this)
  have HCN := Lib.hid hcnt
  have HLV := Lib.hid hL
  have H84 := Lib.hid h84
  have HNN := Lib.hid hn
  have HE := Lib.hid (And.intro e0 (And.intro e1 e2))
  have g1 : ¬ (n : Int) < 3 := by omega
  have g2 : ¬ (470 : Int) < (n : Int) := by omega
  have g3 : (0 : Int) < (n : Int) ∧ (1 : Int) < (n : Int) ∧ (2 : Int) < (n : Int) := by omega
  skip
  skip
  have uc : IntKind.i64.wrap (cnt : Int) = cnt := by have := IntWalk.i64_in (cnt : Int) (by omega); exact this
  have hsz5 : w.heap.size + 3 < w5.heap.size := by have := hN5.hEb; omega
  have hEG : w.heap.size + 1 < G ∧ G < E := by omega
  clear hx hn e0 e1 e2 h84 hL hw0 hw5 hG hE hs05 hN5 hcnt
  go_enter Try.func14, Try.ntmps14
  go_wp2
  rw [HW5.out, HGE.out.2, HGE.out.1]
  clear c0 c1 HW5
  go_loopw [7] (fun i wr => ∃ (j pos : Nat) (u : Value) (ps : List PairX), j ≤ cnt ∧ i = .int .i64 j ∧ many (codecP.part bs) j 3 = some (kvs ps, pos) ∧ NSr w0 wr E G (some ⟨g, off, none⟩) c bs pos 0 u (.slice none 0 0) w5.heap.size ps []) (fun i _ => cnt - (intOf i).toNat)
  case atStart => exact ⟨0, 3, .slice none 0 0, [], by omega, rfl, rfl, HN5.out⟩
  case round =>
    obtain ⟨j, pos, u, ps, hj, rfl, hmany, hst⟩ := hrel
    have HST := Lib.hid hst
    have HM := Lib.hid hmany
    have hjl : ps.length = j := by have := many_len _ hmany; rw [kvs_length] at this; exact this
    have HJL := Lib.hid hjl
    have hc2 := HC2.out wr hst.same
    have hlen100 : bs.length ≤ 140737488351232 := by have := HNN.out; omega
    clear hst hmany HN5
    by_cases hlt : j < cnt
    · have hlt2 : (j : Int) < (cnt : Int) := by omega
      have hle : ps.length ≤ 255 := by omega
      clear hjl
      go_wp2_with fail
      ((with_reducible refine (reyetext_c E _ c bs pos _ HST.out.eye hlen100).mono ?_); rintro e w1 ⟨ko, kn, kc, er, rfl, hk1, hy1', hn1, hc1⟩)
      have H1 := Lib.hid (HST.out.call hk1 hy1')
      have hz1 := hk1.size
      have HN1 := Lib.hid hn1
      have HNL1 := Lib.hid HN1.out
      clear hy1' hn1 hc2
      rcases hc1 with ⟨q1, rfl, ho1⟩ | ⟨q1, rfl⟩
      case inr =>
        have HNO : Hid (∀ lv ps ks, NFit lv ps ks → nodeB lv.toNat ps ks ≠ bs) := Lib.hid (fun lv ps' ks' hf hb => by
          obtain ⟨h1, h2, h3⟩ := HDR.out lv ps' ks' hf hb
          rw [HCN.out] at h2 h3
          have hn := many_none' (many_stop HM.out (show codecP.part bs pos = none from by rw [codecP]; exact pair_none1 (txt_none q1))) (show j + 1 ≤ cnt by omega)
          obtain ⟨_, h4⟩ := h2 (by have := HLV.out; omega)
          rw [hn] at h4
          simp at h4)
        have HEND := Lib.hid (HB.out.over H1.out.same)
        have HR := Lib.hid (HB.out.r.keep H1.out.same (fun e => e))
        have n0 := (HB.out.n.keep H1.out.same (fun e => e)).cell (i := 0) rfl
        have n1 := (HB.out.n.keep H1.out.same (fun e => e)).cell (i := 1) rfl
        have n2 := (HB.out.n.keep H1.out.same (fun e => e)).cell (i := 2) rfl
        clear q1 hk1
        go_wp2_with (first
          | (refine wpList_store_row (by rfl) 25 _ _ (by rfl) w.heap.size node0.toArray (by rfl) (by rfl) 25 node0.toArray HR.out HIO.out rfl node0_all ?_))
        refine bodyPost_ret (v := .tuple #[.agg node0.toArray, .int .i64 22]) (results_row_tmp (p := 2) (u := 3) (ty := 25) rfl _ _ w.heap.size 25 _ (0, 0) _ (by rfl) HEND.out.2 Try.underlying25 rfl HIO.out) rfl
          (RdPost.no HEND.out.1 HNO.out)
      have HQ1 := Lib.hid q1
      have HO1 := Lib.hid ho1
      have HPV : Hid (∀ j, u.ownBlock = some j → j < wr.heap.size) := Lib.hid (fun j e => (HST.out.pr.own.lt j e).2)
      have hbw := HST.out.hb
      have l0 := H1.out.node.cell (i := 0) rfl
      have HK1 := Lib.hid hk1
      clear q1 ho1 hk1
      go_wp2_with fail
      ((with_reducible refine (reyetext_c E _ c bs (txtTo bs pos) _ H1.out.eye hlen100).mono ?_); rintro e w2 ⟨vo, vn, vc, er, rfl, hk2, hy2', hn2, hc2⟩)
      have H2 := Lib.hid (H1.out.call hk2 hy2')
      have hz2 := hk2.size
      have HN2 := Lib.hid hn2
      clear hy2' hn2 l0
      rcases hc2 with ⟨q2, rfl, ho2⟩ | ⟨q2, rfl⟩
      case inr =>
        have HNO : Hid (∀ lv ps ks, NFit lv ps ks → nodeB lv.toNat ps ks ≠ bs) := Lib.hid (fun lv ps' ks' hf hb => by
          obtain ⟨h1, h2, h3⟩ := HDR.out lv ps' ks' hf hb
          rw [HCN.out] at h2 h3
          have hn := many_none' (many_stop HM.out (show codecP.part bs pos = none from by rw [codecP]; exact pair_none2 (txt_some HQ1.out) (txt_none q2))) (show j + 1 ≤ cnt by omega)
          obtain ⟨_, h4⟩ := h2 (by have := HLV.out; omega)
          rw [hn] at h4
          simp at h4)
        have HEND := Lib.hid (HB.out.over H2.out.same)
        have HR := Lib.hid (HB.out.r.keep H2.out.same (fun e => e))
        have n0 := (HB.out.n.keep H2.out.same (fun e => e)).cell (i := 0) rfl
        have n1 := (HB.out.n.keep H2.out.same (fun e => e)).cell (i := 1) rfl
        have n2 := (HB.out.n.keep H2.out.same (fun e => e)).cell (i := 2) rfl
        clear q2 hk2
        go_wp2_with (first
          | (refine wpList_store_row (by rfl) 25 _ _ (by rfl) w.heap.size node0.toArray (by rfl) (by rfl) 25 node0.toArray HR.out HIO.out rfl node0_all ?_))
        refine bodyPost_ret (v := .tuple #[.agg node0.toArray, .int .i64 22]) (results_row_tmp (p := 2) (u := 3) (ty := 25) rfl _ _ w.heap.size 25 _ (0, 0) _ (by rfl) HEND.out.2 Try.underlying25 rfl HIO.out) rfl
          (RdPost.no HEND.out.1 HNO.out)
      have hO12 : w2.ownsRow wr.heap.size 5 1 (.slice ko kn kc) kn (u8s (txtAt bs pos)) := own_keeps hk2 HO1.out (fun j e e2 => by
        have h1 := (HO1.out.lt j e).1
        have h2 := HST.out.eye.lt
        omega)
      have HO12 := Lib.hid hO12
      have HO2 := Lib.hid ho2
      have HQ2 := Lib.hid q2
      have c1 := H2.out.node.cell (i := 1) rfl
      have f1 := H2.out.node.free 1
      have hGb : G < w5.heap.size ∧ w5.heap.size ≤ w2.heap.size := ⟨H2.out.hEb.2.1, H2.out.hb⟩
      clear hk2 hO12 ho2 q2
      go_wp2_with (at_builtin; refine wpList_append_lies _ (by rfl) _ _ _ (by rfl) w5.heap.size 54 j0 _ 2 48 Try.underlying22 hj0 hy0 hy1 hy2 rfl (by omega) u ps.length (flat ps) (by rfl) (own_keeps ((Keeps.refl (fun _ => False) w2).alloc _) H2.out.pr.own (fun _ _ e => e)) ⟨w2.heap.size, 0, none⟩ 1 1 [.slice ko kn kc, .slice vo vn vc] (by rfl) (by rfl) (World.news_of_block (cs := #[.slice ko kn kc, .slice vo vn vc]) (t := 54) (fr := (0, 0)) (heap_alloc_new w2 _)) (two_cells _ _ _ _ _ _) (by omega) (by unfold maxLen; omega) (by omega) (by have := hGb.2; simp; omega) _ rfl ?_
                   intro gg cc w3 hown hgrow hat hlt
                   obtain ⟨c3, f3, hnode3⟩ := H2.out.grown hgrow
                   have HOWN := Lib.hid hown
                   have HGR := Lib.hid hgrow
                   have HAT := Lib.hid hat
                   have HND := Lib.hid hnode3
                   clear hown hgrow hat hlt hnode3)
      have HNS : Hid (NSr w0 (w3.setCell ⟨G, 1, none⟩ (.slice (some ⟨gg, 0, none⟩) (ps.length + 1) cc)) E G (some ⟨g, off, none⟩) c bs (txtTo bs (txtTo bs pos)) 0 (.slice (some ⟨gg, 0, none⟩) (ps.length + 1) cc) (.slice none 0 0) w5.heap.size (ps ++ [⟨.slice ko kn kc, txtAt bs pos, .slice vo vn vc, txtAt bs (txtTo bs pos)⟩]) []) := Lib.hid (by
        have hsA : Same w2 (w2.alloc (.cells #[.slice ko kn kc, .slice vo vn vc] 54)) := (Keeps.refl _ _).alloc _
        refine H2.out.setp HND.out ?_ (KRow.nil _ _)
        refine (H2.out.pr.same hsA).step ⟨.slice ko kn kc, txtAt bs pos, .slice vo vn vc, txtAt bs (txtTo bs pos)⟩ ?_ ?_ ?_ ?_ HOWN.out HGR.out ?_
        · exact (Bytes.of_own (by rw [HN1.out]; exact HO12.out)).same hsA
        · exact (Bytes.of_own (by rw [HN2.out]; exact HO2.out)).same hsA
        · exact textFar_own HO12.out HPV.out hbw
        · exact textFar_own HO2.out (fun j e => by have := HPV.out j e; omega) (by omega)
        · rcases HAT.out with h | h
          · exact .inl h
          · exact .inr (by rw [h]; exact Nat.le_refl _))
      have HM6 : Hid (many (codecP.part bs) (j + 1) 3 = some (kvs (ps ++ [⟨.slice ko kn kc, txtAt bs pos, .slice vo vn vc, txtAt bs (txtTo bs pos)⟩]), txtTo bs (txtTo bs pos))) := Lib.hid (by
        rw [many_go HM.out (show codecP.part bs pos = some ((txtAt bs pos, txtAt bs (txtTo bs pos)), txtTo bs (txtTo bs pos)) from by rw [codecP]; exact pair_some (txt_some HQ1.out) (txt_some HQ2.out))]
        simp [kvs])
      go_wp2
      go_roundw
      case rel => exact ⟨j + 1, _, _, _, by omega, by go_num, HM6.out, HNS.out⟩
      case measure => simp [intOf]; omega
    · obtain rfl : j = cnt := by omega
      have hlt2 : ¬ (j : Int) < (j : Int) := by omega
      obtain ⟨ao2, c2, rfl, hprs, hcap⟩ := HST.out.pr.pairs
      have hsp1 := many_split codecP bs 3 (by have := HNN.out; omega) j HM.out
      have HSP1 := Lib.hid hsp1
      have HUN : Hid (∀ lv ps' ks', NFit lv ps' ks' → nodeB lv.toNat ps' ks' = bs → NFit (0 : Int) (kvs ps) (kks []) ∧ pos = bs.length) := Lib.hid (fun lv ps' ks' hf hb => by
        obtain ⟨h1, h2, h3⟩ := HDR.out lv ps' ks' hf hb
        rw [HCN.out] at h2 h3
        obtain ⟨h5, h4⟩ := h2 (by have := HLV.out; omega)
        rw [HM.out] at h4
        simp only [Option.some.injEq, Prod.mk.injEq] at h4
        rw [h5, ← h4.1, h1] at hf
        rw [show (b1.toNat : Int) = 0 from by have := HLV.out; omega] at hf
        exact ⟨hf, h4.2⟩)
      have HNA : Hid (NodeAt wr ao2 none ps [] c2 0) := Lib.hid ⟨hprs, .inl rfl, hcap, Nat.le_refl _⟩
      have HEND := Lib.hid (HB.out.over HST.out.same)
      have HR := Lib.hid (HB.out.r.keep HST.out.same (fun e => e))
      have n0 := (HB.out.n.keep HST.out.same (fun e => e)).cell (i := 0) rfl
      have n1 := (HB.out.n.keep HST.out.same (fun e => e)).cell (i := 1) rfl
      have n2 := (HB.out.n.keep HST.out.same (fun e => e)).cell (i := 2) rfl
      have cE := (cell_of_two HST.out.eye.obj).2.1
      have cG0 := HST.out.node.cell (i := 0) rfl
      have cG1 := HST.out.node.cell (i := 1) rfl
      have cG2 := HST.out.node.cell (i := 2) rfl
      clear hprs hsp1 hjl
      by_cases hpn : pos = n
      case neg =>
        have HNO : Hid (∀ lv ps ks, NFit lv ps ks → nodeB lv.toNat ps ks ≠ bs) := Lib.hid (fun lv ps' ks' hf hb => hpn ((HUN.out lv ps' ks' hf hb).2.trans HNN.out))
        have gp : ((pos : Int) == (n : Int)) = false := by simp; omega
        have gpa : ¬ (pos : Int) = (n : Int) := by omega
        have gpb : ((pos : Int) != (n : Int)) = true := by simp; omega
        clear hpn
        go_wp2_with (first
          | (refine wpList_store_row (by rfl) 25 _ _ (by rfl) w.heap.size node0.toArray (by rfl) (by rfl) 25 node0.toArray HR.out HIO.out rfl node0_all ?_))
        refine bodyPost_ret (v := .tuple #[.agg node0.toArray, .int .i64 22]) (results_row_tmp (p := 2) (u := 3) (ty := 25) rfl _ _ w.heap.size 25 _ (0, 0) _ (by rfl) HEND.out.2 Try.underlying25 rfl HIO.out) rfl
          (RdPost.no HEND.out.1 HNO.out)
      subst hpn
      go_wp2_with fail
      ((with_reducible refine (refright_any 0 ao2 none ps.length c2 0 0 ps [] _ HNA.out rfl rfl (by have := HJL.out; omega) (by have := HJL.out; omega)).mono ?_); rintro e w9 ⟨b, rfl, hk9, hb⟩)
      have HR9 := Lib.hid (HR.out.keep hk9 (fun e => e))
      have H9 := Lib.hid (HST.out.keepB hk9)
      have HS9 := Lib.hid ((HB.out.same.trans HST.out.same (fun _ _ e => e)).trans hk9 (fun _ _ e => e))
      clear n0 n1 n2 cE cG0 cG1 cG2
      cases b with
      | false =>
        have HNO : Hid (∀ lv ps ks, NFit lv ps ks → nodeB lv.toNat ps ks ≠ bs) := Lib.hid (fun lv ps' ks' hf hb2 => by
          have := hb.2 (HUN.out lv ps' ks' hf hb2).1.1
          simp at this)
        have HEND9 := Lib.hid (HB.out.over (HST.out.same.trans hk9 (fun _ _ e => e)))
        have n0 := (HB.out.n.keep H9.out.same (fun e => e)).cell (i := 0) rfl
        have n1 := (HB.out.n.keep H9.out.same (fun e => e)).cell (i := 1) rfl
        have n2 := (HB.out.n.keep H9.out.same (fun e => e)).cell (i := 2) rfl
        clear hb hk9
        go_wp2_with (first
          | (refine wpList_store_row (by rfl) 25 _ _ (by rfl) w.heap.size node0.toArray (by rfl) (by rfl) 25 node0.toArray HR9.out HIO.out rfl node0_all ?_))
        refine bodyPost_ret (v := .tuple #[.agg node0.toArray, .int .i64 22]) (results_row_tmp (p := 2) (u := 3) (ty := 25) rfl _ _ w.heap.size 25 _ (0, 0) _ (by rfl) HEND9.out.2 Try.underlying25 rfl HIO.out) rfl
          (RdPost.no HEND9.out.1 HNO.out)
      | true =>
        have hwhole : nodeB (0 : Int).toNat (kvs ps) (kks []) = bs := by
          have h1 := node_of_rd (bs := bs) (lv := 0) (ps := kvs ps) (ks := []) (by have := HNN.out; omega) (by have := (numAt_one HE.out.1).1; have := H84.out; omega) (by have := (numAt_one HE.out.2.1).1; have := HLV.out; omega)
            (.inl ⟨rfl, by rw [(numAt_one HE.out.2.2).1, HCN.out, HM.out, HNN.out]⟩)
          exact h1
        have HFT : Hid (NFit (0 : Int) (kvs ps) (kks [])) := Lib.hid ⟨hb.1 rfl, fun k hk => by simp [kks] at hk, by rw [hwhole]; have := HNN.out; omega⟩
        have HWH := Lib.hid hwhole
        have cG0 := H9.out.node.cell (i := 0) rfl
        have cG1 := H9.out.node.cell (i := 1) rfl
        have cG2 := H9.out.node.cell (i := 2) rfl
        have HEND9 : Hid (Same w (w9.setRow w.heap.size ([.int .i64 0, .slice ao2 ps.length c2, .slice none 0 0] : List Value).toArray) ∧ Whole (w9.setRow w.heap.size ([.int .i64 0, .slice ao2 ps.length c2, .slice none 0 0] : List Value).toArray) w.heap.size 25 [.int .i64 0, .slice ao2 ps.length c2, .slice none 0 0]) := Lib.hid
          ⟨HS9.out.setRow _ _ (.inl (Nat.le_refl _)), HR9.out.row⟩
        have HFIN : Hid (∀ (S : Nat → Prop) w'', Keeps S (w9.setRow w.heap.size ([.int .i64 0, .slice ao2 ps.length c2, .slice none 0 0] : List Value).toArray) w'' → (∀ j, S j → j < w.heap.size) → NodeAt w'' ao2 none ps [] c2 0) := Lib.hid (fun S w'' k hS => by
          have k2 : Keeps (fun j => j = w.heap.size ∨ S j) w9 w'' := (((Keeps.refl (fun j => j = w.heap.size) w9).setRow _ _ (.inr rfl)).mono (fun _ _ e => .inl e)).trans (k.mono (fun _ _ e => .inr e)) (fun _ _ e => e)
          have h9 := H9.out.pr.keep k2 (fun j e => by
            rcases e with e | e
            · omega
            · have := hS j e; omega)
          obtain ⟨ao3, c3, e3, hp3, hc3⟩ := h9.pairs
          simp only [Value.slice.injEq] at e3
          obtain ⟨rfl, _, rfl⟩ := e3
          exact ⟨hp3, .inl rfl, hc3, Nat.le_refl _⟩)
        clear hb hk9 hwhole
        go_wp2_with (first
          | (refine wpList_store_row (by rfl) 25 _ _ (by rfl) w.heap.size ([.int .i64 0, .slice ao2 ps.length c2, .slice none 0 0] : List Value).toArray (by rfl) (by rfl) 25 node0.toArray HR9.out HIO.out rfl (node_all _ _ _ _ _ _ _) ?_))
        refine bodyPost_ret (v := .tuple #[.agg ([.int .i64 0, .slice ao2 ps.length c2, .slice none 0 0] : List Value).toArray, .int .i64 0]) (results_row_tmp (p := 2) (u := 3) (ty := 25) rfl _ _ w.heap.size 25 _ (0, 0) _ (by rfl) HEND9.out.2 Try.underlying25 rfl HIO.out) rfl
          ⟨HEND9.out.1, 0, ao2, c2, none, 0, ps, [], 0, rfl, .inl ⟨HFT.out, HWH.out, rfl⟩, HFIN.out⟩
end Go.Proofs.Ytdeajjppmgfemaa
