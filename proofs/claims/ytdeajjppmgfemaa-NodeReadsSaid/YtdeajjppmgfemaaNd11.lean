/- What node.Read does of an inner node, and of any bytes. -/
import Derived.Test.YtdeajjppmgfemaaNd10
namespace Go.Proofs.Ytdeajjppmgfemaa
open Go.RowKit
set_option linter.unusedVariables false

set_option maxRecDepth 100000 in
set_option maxHeartbeats 25600000 in
theorem nodeRead_inner (L : Nat) (ao : Option Addr) (n c : Nat) (bs : List UInt8) (w : World) (hx : Bytes w (.slice ao n c) bs) (hsp : ∀ x, ao = some x → bs ≠ [] → x.spot = none) (hn : bs.length = n) (hc : n ≤ c) (hcn : ao = none → c = 0) (hl : n ≤ 470)
    (hlv : numAt bs (numTo bs 0 1) 1 = L) (hL : 1 ≤ L) :
    Calls Try.prog 13 #[.slice ao n c] w (RdPost w bs) := by
  have HIO := Lib.hid Try.sizeNode3
  have hbl : bs.length ≤ 470 := by omega
  have hsz0 : (w.alloc (.cells #[.int .i64 0, .slice none 0 0, .slice none 0 0] 25)).heap.size = w.heap.size + 1 := by simp
  obtain ⟨w0, hw0⟩ : ∃ w0, w.alloc (.cells #[.int .i64 0, .slice none 0 0, .slice none 0 0] 25) = w0 := ⟨_, rfl⟩
  have HW0 := Lib.hid hw0
  have HS0 : Hid (Same w w0) := Lib.hid (by rw [← hw0]; exact (Keeps.refl _ _).alloc _)
  have HR0 : Hid (Whole w0 w.heap.size 25 node0) := Lib.hid (by rw [← hw0]; exact heap_alloc_new w _)
  rw [hw0] at hsz0
  have HX := Lib.hid (hx.same HS0.out)
  have HSP := Lib.hid hsp
  have HN := Lib.hid hn
  have HCN := Lib.hid hcn
  have HNW := Lib.hid (neweye_w ao c bs w0 (by rw [hn]; exact HX.out) (by omega) (by omega) hcn)
  rw [hn] at HNW
  obtain ⟨p1, hp1⟩ : ∃ p, numTo bs 0 1 = p := ⟨_, rfl⟩
  obtain ⟨p2, hp2⟩ : ∃ p, numTo bs p1 1 = p := ⟨_, rfl⟩
  obtain ⟨p3, hp3⟩ : ∃ p, numTo bs p2 1 = p := ⟨_, rfl⟩
  obtain ⟨cnt, hcnt⟩ : ∃ p, numAt bs p2 1 = p := ⟨_, rfl⟩
  rw [hp1] at hlv
  have HDR := Lib.hid (hdr_of hp1 hp2 hp3 hlv hcnt)
  have hcl : cnt < 256 := by have := numAt_lt bs p2 1; omega
  have hLl : L < 256 := by have := numAt_lt bs p1 1; omega
  have HP : Hid (numTo bs 0 1 = p1 ∧ numTo bs p1 1 = p2 ∧ numTo bs p2 1 = p3 ∧ numAt bs p1 1 = L ∧ numAt bs p2 1 = cnt) := Lib.hid ⟨hp1, hp2, hp3, hlv, hcnt⟩
  have u1 : IntKind.i64.wrap (L : Int) = L := by have := IntWalk.i64_in (L : Int) (by omega); exact this
  clear hx hsp hn hcn hw0 hp1 hp2 hp3 hlv hcnt
  go_enter Try.func13, Try.ntmps13
  go_wp2_with fail
  rw [HW0.out]
  ((with_reducible refine HNW.out.mono ?_); rintro e w1 ⟨E, yv, rfl, hy1⟩)
  have HY1 := Lib.hid hy1
  clear hy1 HNW
  go_wp2_with fail
  ((with_reducible refine (eyeuint_c E bs 0 1 _ _ HY1.out (by omega) (by omega) (by omega) (by omega)).mono ?_); rintro e w2 ⟨er1, rfl, hy2, hk2⟩)
  rw [HP.out.1] at hy2
  have HY2 := Lib.hid hy2
  clear hy2 hk2 HY1
  go_wp2_with fail
  ((with_reducible refine (eyeuint_c E bs p1 1 _ _ HY2.out (by omega) (by omega) (by omega) (by omega)).mono ?_); rintro e w3 ⟨er2, rfl, hy3, hk3⟩)
  rw [HP.out.2.1] at hy3
  rw [HP.out.2.2.2.1]
  have HY3 := Lib.hid hy3
  clear hy3 hk3 HY2
  go_wp2_with fail
  ((with_reducible refine (eyeuint_c E bs p2 1 _ _ HY3.out (by omega) (by omega) (by omega) (by omega)).mono ?_); rintro e w4 ⟨er3, rfl, hy4, hk4⟩)
  rw [HP.out.2.2.1] at hy4
  rw [HP.out.2.2.2.2]
  have HN5 : Hid (NSt w0 (w4.alloc (.cells #[.int .i64 (L : Int), .slice none 0 0, .slice none 0 0] 25)) E w4.heap.size yv bs p3 (L : Int) (.slice none 0 0) (.slice none 0 0) (w4.heap.size + 1) [] []) := Lib.hid (by
    have hE := hy4.lt
    have hrow := hy4.row_lt
    have hsw := hy4.same.size
    exact ⟨hy4.same' ((Keeps.refl _ _).alloc _), heap_alloc_new w4 _, PRow.nil _ _, KRow.nil _ _, hsw, hy4.new, ⟨by omega, by omega, by omega⟩, fun j e => by have := hrow j e; omega, by simp⟩)
  have hw4 : w0.heap.size ≤ w4.heap.size := hy4.same.size
  clear hy4 hk4 HY3
  go_wp2
  go_loopw [35] (fun i wr => ∃ (j pos : Nat) (u : Value) (ks : List KidX), j ≤ cnt ∧ i = .int .u64 j ∧ many (codecK.part bs) j p3 = some (kks ks, pos) ∧ NSt w0 wr E w4.heap.size yv bs pos (L : Int) (.slice none 0 0) u (w4.heap.size + 1) [] ks) (fun i _ => cnt - (intOf i).toNat)
  case atStart => exact ⟨0, p3, .slice none 0 0, [], by omega, rfl, rfl, HN5.out⟩
  case round =>
    obtain ⟨j, pos, u, ks, hj, rfl, hmany, hst⟩ := hrel
    have HST := Lib.hid hst
    have HM := Lib.hid hmany
    have hjl : ks.length = j := by have := many_len _ hmany; rw [kks_length] at this; exact this
    have HJL := Lib.hid hjl
    clear hst hmany HN5
    by_cases hlt : j < cnt
    · have hlt2 : (j : Int) < (cnt : Int) := by omega
      have ju : IntKind.u64.wrap ((j : Int) + 1) = (j : Int) + 1 := u64_wrap_in _ (by omega) (by omega)
      have hle : ks.length ≤ 1000 := by omega
      clear hjl
      go_wp2_with fail
      ((with_reducible refine (readPart_kid _ HST.out hL (by omega) hle).mono ?_); rintro e w6 hpost)
      rcases hpost with ⟨er, rfl, her, hnone, hsame⟩ | ⟨u2, p, j2, rfl, hsome, hst6⟩
      · have her2 : (er == 0) = false := by simpa using her
        have HNO : Hid (∀ lv ps ks, NFit lv ps ks → nodeB lv.toNat ps ks ≠ bs) := Lib.hid (fun lv ps' ks' hf hb => by
          obtain ⟨h1, h2, h3⟩ := HDR.out lv ps' ks' hf hb
          have hn := many_none' (many_stop HM.out hnone) (show j + 1 ≤ cnt by omega)
          obtain ⟨_, h4⟩ := h3 (by omega)
          rw [hn] at h4
          simp at h4)
        have HR6 := Lib.hid (HR0.out.keep hsame (fun e => e))
        have HEND : Hid (Same w (w6.setRow w.heap.size node0.toArray) ∧ Whole (w6.setRow w.heap.size node0.toArray) w.heap.size 25 node0) := Lib.hid
          ⟨(HS0.out.trans hsame (fun _ _ e => e)).setRow _ _ (.inl (Nat.le_refl _)), HR6.out.row⟩
        clear her hnone hsame
        go_wp2_with (first
            | (refine wpList_store_row (by rfl) 25 _ _ (by rfl) w.heap.size node0.toArray (by rfl) (by rfl) 25 node0.toArray HR6.out HIO.out rfl node0_all ?_))
        refine bodyPost_ret (v := .tuple #[.agg node0.toArray, .int .i64 22]) (results_row_tmp (p := 2) (u := 3) (ty := 25) rfl _ _ w.heap.size 25 _ (0, 0) _ (by rfl) HEND.out.2 Try.underlying25 rfl HIO.out) rfl
          (RdPost.no HEND.out.1 HNO.out)
      · have HST6 := Lib.hid hst6
        have HM6 : Hid (many (codecK.part bs) (j + 1) p3 = some (kks (ks ++ [p]), j2)) := Lib.hid (by
          rw [many_go HM.out hsome]; simp [kks])
        clear hst6 hsome
        go_wp2
        go_roundw
        case rel => exact ⟨j + 1, j2, u2, ks ++ [p], by omega, by go_num, HM6.out, HST6.out⟩
        case measure => simp [intOf]; omega
    · obtain rfl : j = cnt := by omega
      have hlt2 : ¬ (j : Int) < (j : Int) := by omega
      obtain ⟨ao2, c2, rfl, hprs, hcap⟩ := HST.out.kr.kids
      have HPR := Lib.hid hprs
      have hsp1 := (many_split codecK bs p3 (by
        have h1 := HP.out.1; have h2 := HP.out.2.1; have h3 := HP.out.2.2.1
        unfold numTo at h1 h2 h3
        split at h1 <;> split at h2 <;> split at h3 <;> omega) j HM.out)
      have hfl : ((kks ks).flatMap codecK.enc).length ≤ 470 := by
        have h1 := congrArg List.length hsp1.1
        simp only [List.length_drop, List.length_append] at h1
        omega
      have HOK := Lib.hid hsp1.2.2.2
      have HUN : Hid (∀ lv ps' ks', NFit lv ps' ks' → nodeB lv.toNat ps' ks' = bs → NFit (L : Int) (kvs []) (kks ks) ∧ nodeB (L : Int).toNat (kvs []) (kks ks) = bs) := Lib.hid (fun lv ps' ks' hf hb => by
        obtain ⟨h1, h2, h3⟩ := HDR.out lv ps' ks' hf hb
        obtain ⟨h5, h4⟩ := h3 (by omega)
        rw [HM.out] at h4
        simp only [Option.some.injEq, Prod.mk.injEq] at h4
        rw [h5, ← h4.1, h1] at hf hb
        exact ⟨hf, hb⟩)
      have HST9 := Lib.hid HST.out
      have cG0 := HST.out.node.cell (i := 0) rfl
      have cG1 := HST.out.node.cell (i := 1) rfl
      have cG2 := HST.out.node.cell (i := 2) rfl
      have HNA : Hid (NodeAt wr none ao2 [] ks 0 c2) := Lib.hid ⟨.inl rfl, hprs, Nat.le_refl _, hcap⟩
      have hks0 : ∀ k ∈ ks, k.fs.length ≤ 1000000 := fun k hk => by
        have h1 := flat_mem_le codecK.enc (kks ks) (k.fs, k.hs) (by simp only [kks, List.mem_map]; exact ⟨k, hk, rfl⟩)
        rw [encK_len] at h1
        simp only at h1
        omega
      have HWR := Lib.hid (nodeWrite_any (L : Int) none ao2 0 0 ks.length c2 [] ks wr HNA.out rfl rfl (by simp [psum]) hks0 (by omega))
      have HS9 := Lib.hid HST.out.eye.same
      clear hprs hsp1 hfl hjl
      go_wp2_with fail
      ((with_reducible refine HWR.out.mono ?_); rintro e w8 ⟨hk8, v, b, er, rfl, hrd, hfr, hcs⟩)
      have HR8 := Lib.hid ((HR0.out.keep HS9.out (fun e => e)).keep hk8 (fun e => e))
      have HS8 := Lib.hid ((HS0.out.trans HS9.out (fun _ _ e => e)).trans hk8 (fun _ _ e => e))
      have HENDN : Hid (Same w (w8.setRow w.heap.size node0.toArray) ∧ Whole (w8.setRow w.heap.size node0.toArray) w.heap.size 25 node0) := Lib.hid
        ⟨HS8.out.setRow _ _ (.inl (Nat.le_refl _)), HR8.out.row⟩
      have HN8 := Lib.hid (HST9.out.same hk8)
      clear cG0 cG1 cG2 HWR HST HST9
      rcases hcs with ⟨hr, hle, rfl, rfl⟩ | hbad
      · obtain ⟨vo, vc, rfl, hb8, hs8, hc8⟩ := hrd
        have HX8 := Lib.hid (HX.out.same (HS9.out.trans hk8 (fun _ _ e => e)))
        have HFT : Hid (NFit (L : Int) (kvs []) (kks ks)) := Lib.hid ⟨hr, fun k hk => (HOK.out k hk).2, hle⟩
        obtain ⟨Y, hY⟩ : ∃ Y, nodeB (L : Int).toNat (kvs []) (kks ks) = Y := ⟨_, rfl⟩
        rw [hY] at hb8 hs8 hc8 HUN ⊢
        have HYY := Lib.hid hY
        have hbn : Bytes w8 (.slice ao bs.length c) bs := by rw [HN.out]; exact HX8.out
        have HEQ0 := bytesEqual_any vo ao Y bs vc c w8 hb8 hbn hs8 HSP.out
        rw [HN.out] at HEQ0
        have HEQ := Lib.hid HEQ0
        clear hY hb8 hs8 hc8 hbn HEQ0 hr hle hk8
        by_cases hE : Y = bs
        · rw [decide_eq_true hE] at HEQ
          have HE := Lib.hid hE
          have cG0 := HN8.out.node.cell (i := 0) rfl
          have cG1 := HN8.out.node.cell (i := 1) rfl
          have cG2 := HN8.out.node.cell (i := 2) rfl
          have HEND : Hid (Same w (w8.setRow w.heap.size ([.int .i64 (L : Int), .slice none 0 0, .slice ao2 ks.length c2] : List Value).toArray) ∧ Whole (w8.setRow w.heap.size ([.int .i64 (L : Int), .slice none 0 0, .slice ao2 ks.length c2] : List Value).toArray) w.heap.size 25 [.int .i64 (L : Int), .slice none 0 0, .slice ao2 ks.length c2]) := Lib.hid
            ⟨HS8.out.setRow _ _ (.inl (Nat.le_refl _)), HR8.out.row⟩
          have HFIN : Hid (∀ (S : Nat → Prop) w'', Keeps S (w8.setRow w.heap.size ([.int .i64 (L : Int), .slice none 0 0, .slice ao2 ks.length c2] : List Value).toArray) w'' → (∀ j, S j → j < w.heap.size) → NodeAt w'' none ao2 [] ks 0 c2) := Lib.hid (fun S w'' k hS => by
            have k2 : Keeps (fun j => j = w.heap.size ∨ S j) w8 w'' := (((Keeps.refl (fun j => j = w.heap.size) w8).setRow _ _ (.inr rfl)).mono (fun _ _ e => .inl e)).trans (k.mono (fun _ _ e => .inr e)) (fun _ _ e => e)
            have h9 := HN8.out.kr.keep k2 (fun j e => by
              rcases e with e | e
              · omega
              · have := hS j e; omega)
            obtain ⟨ao3, c3, e3, hp3, hc3⟩ := h9.kids
            simp only [Value.slice.injEq] at e3
            obtain ⟨rfl, _, rfl⟩ := e3
            exact ⟨.inl rfl, hp3, Nat.le_refl _, hc3⟩)
          clear hE
          go_wp2_with fail
          ((with_reducible refine HEQ.out.mono ?_); rintro e w12 ⟨rfl, h12⟩)
          subst h12
          go_wp2_with (first
            | (refine wpList_store_row (by rfl) 25 _ _ (by rfl) w.heap.size ([.int .i64 (L : Int), .slice none 0 0, .slice ao2 ks.length c2] : List Value).toArray (by rfl) (by rfl) 25 node0.toArray HR8.out HIO.out rfl (node_all _ _ _ _ _ _ _) ?_))
          refine bodyPost_ret (v := .tuple #[.agg ([.int .i64 (L : Int), .slice none 0 0, .slice ao2 ks.length c2] : List Value).toArray, .int .i64 0]) (results_row_tmp (p := 2) (u := 3) (ty := 25) rfl _ _ w.heap.size 25 _ (0, 0) _ (by rfl) HEND.out.2 Try.underlying25 rfl HIO.out) rfl
            ⟨HEND.out.1, (L : Int), none, 0, ao2, c2, [], ks, 0, rfl, .inl ⟨HFT.out, HYY.out.trans HE.out, rfl⟩, HFIN.out⟩
        · rw [decide_eq_false hE] at HEQ
          have HNO : Hid (∀ lv ps ks, NFit lv ps ks → nodeB lv.toNat ps ks ≠ bs) := Lib.hid (fun lv ps' ks' hf hb => hE (HUN.out lv ps' ks' hf hb).2)
          clear hE
          go_wp2_with fail
          ((with_reducible refine HEQ.out.mono ?_); rintro e w12 ⟨rfl, h12⟩)
          subst h12
          go_wp2_with (first
            | (refine wpList_store_row (by rfl) 25 _ _ (by rfl) w.heap.size node0.toArray (by rfl) (by rfl) 25 node0.toArray HR8.out HIO.out rfl node0_all ?_))
          refine bodyPost_ret (v := .tuple #[.agg node0.toArray, .int .i64 22]) (results_row_tmp (p := 2) (u := 3) (ty := 25) rfl _ _ w.heap.size 25 _ (0, 0) _ (by rfl) HENDN.out.2 Try.underlying25 rfl HIO.out) rfl
            (RdPost.no HENDN.out.1 HNO.out)
      · have HNO : Hid (∀ lv ps ks, NFit lv ps ks → nodeB lv.toNat ps ks ≠ bs) := Lib.hid (fun lv ps' ks' hf hb => by
          have h1 := (HUN.out lv ps' ks' hf hb).1
          rcases hbad with ⟨_, h2, _⟩ | ⟨h2, _⟩
          · have := h1.2.2; omega
          · exact h2 h1.1)
        have her : er = 23 ∨ er = 1 := by
          rcases hbad with ⟨_, _, _, rfl⟩ | ⟨_, _, rfl⟩
          · exact .inl rfl
          · exact .inr rfl
        clear hbad hrd hfr hk8
        rcases her with rfl | rfl
        all_goals
          go_wp2_with (first
            | (refine wpList_store_row (by rfl) 25 _ _ (by rfl) w.heap.size node0.toArray (by rfl) (by rfl) 25 node0.toArray HR8.out HIO.out rfl node0_all ?_))
          refine bodyPost_ret (v := .tuple #[.agg node0.toArray, .int .i64 22]) (results_row_tmp (p := 2) (u := 3) (ty := 25) rfl _ _ w.heap.size 25 _ (0, 0) _ (by rfl) HENDN.out.2 Try.underlying25 rfl HIO.out) rfl
            (RdPost.no HENDN.out.1 HNO.out)

theorem nodeRead_any (ao : Option Addr) (n c : Nat) (bs : List UInt8) (w : World) (hx : Bytes w (.slice ao n c) bs) (hsp : ∀ x, ao = some x → bs ≠ [] → x.spot = none) (hn : bs.length = n) (hc : n ≤ c) (hcn : ao = none → c = 0) :
    Calls Try.prog 13 #[.slice ao n c] w (RdPost w bs) := by
  by_cases hl : n ≤ 470
  · by_cases h0 : numAt bs (numTo bs 0 1) 1 = 0
    · exact nodeRead_leaf ao n c bs w hx hsp hn hc hcn hl h0
    · exact nodeRead_inner _ ao n c bs w hx hsp hn hc hcn hl rfl (by omega)
  · exact nodeRead_long ao n c bs w hn (by omega)
end Go.Proofs.Ytdeajjppmgfemaa
