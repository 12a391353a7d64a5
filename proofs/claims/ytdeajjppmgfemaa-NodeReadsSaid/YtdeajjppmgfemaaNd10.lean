/- What node.Read does. -/
import Derived.Test.YtdeajjppmgfemaaNd5
import Derived.Test.YtdeajjppmgfemaaNd9
import Derived.Test.YtdeajjppmgfemaaEqual
import Derived.Laws.ResultCell
namespace Go.Proofs.Ytdeajjppmgfemaa
open Go.RowKit
set_option linter.unusedVariables false

def node0 : List Value := [.int .i64 0, .slice none 0 0, .slice none 0 0]
theorem node_all (lv : Int) (po : Option Addr) (pn pc : Nat) (ko : Option Addr) (kn kc : Nat) : (([.int .i64 lv, .slice po pn pc, .slice ko kn kc] : List Value).toArray).all (·.oneCell') = true := by simp [Value.oneCell']
theorem node0_all : node0.toArray.all (·.oneCell') = true := node_all _ _ _ _ _ _ _
theorem Try.sizeNode3 : (Try.prog.info? 25).map (·.size) = some 3 := by kernel_rfl
theorem Try.zeroNode (w : World) : (zeroValue 25).run Try.prog w = .ok (.agg node0.toArray) w := by kernel_rfl
theorem hdr_of {bs : List UInt8} {p1 p2 p3 L cnt : Nat} (h1 : numTo bs 0 1 = p1) (h2 : numTo bs p1 1 = p2) (h3 : numTo bs p2 1 = p3) (hL : numAt bs p1 1 = L) (hc : numAt bs p2 1 = cnt) : ∀ (lv : Int) (ps ks : List (List UInt8 × List UInt8)), NFit lv ps ks → nodeB lv.toNat ps ks = bs →
    lv = (L : Int) ∧ (lv = 0 → ks = [] ∧ many (codecP.part bs) cnt p3 = some (ps, bs.length)) ∧ (lv ≠ 0 → ps = [] ∧ many (codecK.part bs) cnt p3 = some (ks, bs.length)) := by
  intro lv ps ks hf hb
  obtain ⟨_, ⟨a1, a2, a3⟩, _, a4, a5, a6, a7⟩ := rd_of_node hf hb
  rw [a1] at h1
  subst h1
  rw [a2] at h2
  subst h2
  rw [a3] at h3
  subst h3
  rw [hL] at a4
  rw [hc] at a6 a7
  exact ⟨a4.symm, a6, a7⟩
/-- What Read of a block answers. -/
def RdPost (w : World) (bs : List UInt8) (e : Ending) (w' : World) : Prop := Same w w' ∧ ∃ lv po pc ko kc ps ks er, e = .returned (.tuple #[nodeV lv po ps.length pc ko ks.length kc, .int .i64 er]) ∧ NodeIs bs lv (kvs ps) (kks ks) er ∧
  ∀ (S : Nat → Prop) w'', Keeps S w' w'' → (∀ j, S j → j < w.heap.size) → NodeAt w'' po ko ps ks pc kc
theorem RdPost.no {w w' : World} {bs : List UInt8} (k : Same w w') (h : ∀ lv ps ks, NFit lv ps ks → nodeB lv.toNat ps ks ≠ bs) : RdPost w bs (.returned (.tuple #[.agg node0.toArray, .int .i64 22])) w' :=
  ⟨k, 0, none, 0, none, 0, [], [], 22, rfl, .inr ⟨h, rfl, rfl, rfl, rfl⟩, fun _ _ _ _ => ⟨.inl rfl, .inl rfl, Nat.le_refl _, Nat.le_refl _⟩⟩
theorem eyeuint_c {w0 : World} {v : Value} (B : Nat) (bs : List UInt8) (i n : Nat) (N : Int) (w : World) (h : EyeW w0 w B v bs i) (hl : bs.length ≤ 140737488351232) (hn1 : 1 ≤ n) (hn8 : n ≤ 8) (hN : N = (n : Int)) :
    Calls Try.prog 26 #[.pointer (some ⟨B, 0, none⟩), .int .i64 N] w fun e w' => ∃ er, e = .returned (.tuple #[.int .u64 (numAt bs i n : Nat), .int .i64 er]) ∧ EyeW w0 w' B v bs (numTo bs i n) ∧ Keeps (fun k => k = B) w w' := by
  refine (eyeuint_w B bs i n N w h hl hn1 hn8 hN).mono fun e w' ⟨x, er, j, he, hy, _, ha, hb, hk⟩ => ?_
  by_cases q : i + n ≤ bs.length
  · obtain ⟨e1, e2, e3⟩ := ha q
    have h1 : x = numAt bs i n := by unfold numAt; rw [if_pos q]; exact e1
    have h2 : j = numTo bs i n := by unfold numTo; rw [if_pos q]; exact e3
    subst h1 h2
    exact ⟨er, he, hy, hk⟩
  · obtain ⟨e1, e2, e3⟩ := hb (by omega)
    have h1 : x = numAt bs i n := by unfold numAt; rw [if_neg q]; exact e1
    have h2 : j = numTo bs i n := by unfold numTo; rw [if_neg q]; exact e3
    subst h1 h2
    exact ⟨er, he, hy, hk⟩

set_option maxRecDepth 100000 in
set_option maxHeartbeats 6400000 in
theorem nodeRead_long (ao : Option Addr) (n c : Nat) (bs : List UInt8) (w : World) (hn : bs.length = n) (hl : 470 < n) :
    Calls Try.prog 13 #[.slice ao n c] w (RdPost w bs) := by
  have HNO : Hid (∀ lv ps ks, NFit lv ps ks → nodeB lv.toNat ps ks ≠ bs) := Lib.hid (fun lv ps ks hf hb => by
    have := (rd_of_node hf hb).1.1; omega)
  have hl2 : (470 : Int) < (n : Int) := by omega
  have hzs := Try.zeroNode
  have HIO := Lib.hid Try.sizeNode3
  have HR0 : Hid (Whole (w.alloc (.cells node0.toArray 25)) w.heap.size 25 node0) := Lib.hid (heap_alloc_new w _)
  have HEND : Hid (Same w ((w.alloc (.cells node0.toArray 25)).setRow w.heap.size node0.toArray) ∧ Whole ((w.alloc (.cells node0.toArray 25)).setRow w.heap.size node0.toArray) w.heap.size 25 node0) := Lib.hid
    ⟨((Keeps.refl _ _).alloc _).setRow _ _ (.inl (Nat.le_refl _)), HR0.out.row⟩
  clear hn
  go_enter Try.func13, Try.ntmps13
  go_wp2_with (first
    | (refine wpList_buildTo (by rfl) 25 _ (by rfl) _ (by rfl) node0.toArray (by kernel_rfl) ?_)
    | (refine wpList_store_row (by rfl) 25 _ _ (by rfl) w.heap.size node0.toArray (by rfl) (by rfl) 25 node0.toArray HR0.out HIO.out rfl node0_all ?_))
  refine bodyPost_ret (v := .tuple #[.agg node0.toArray, .int .i64 22]) (results_row_tmp (p := 2) (u := 3) (ty := 25) rfl _ _ w.heap.size 25 _ (0, 0) _ (by rfl) HEND.out.2 Try.underlying25 rfl HIO.out) rfl
    (RdPost.no HEND.out.1 HNO.out)

set_option maxRecDepth 100000 in
set_option maxHeartbeats 25600000 in
theorem nodeRead_leaf (ao : Option Addr) (n c : Nat) (bs : List UInt8) (w : World) (hx : Bytes w (.slice ao n c) bs) (hsp : ∀ x, ao = some x → bs ≠ [] → x.spot = none) (hn : bs.length = n) (hc : n ≤ c) (hcn : ao = none → c = 0) (hl : n ≤ 470)
    (hlv : numAt bs (numTo bs 0 1) 1 = 0) :
    Calls Try.prog 13 #[.slice ao n c] w (RdPost w bs) := by
  have HIO := Lib.hid Try.sizeNode3
  have hbl : bs.length ≤ 470 := by omega
  have hsz0 : (w.alloc (.cells #[.int .i64 0, .slice none 0 0, .slice none 0 0] 25)).heap.size = w.heap.size + 1 := by simp
  obtain ⟨w0, hw0⟩ : ∃ w0, w.alloc (.cells #[.int .i64 0, .slice none 0 0, .slice none 0 0] 25) = w0 := ⟨_, rfl⟩
  have HW0 := Lib.hid hw0
  have HS0 : Hid (Same w w0) := Lib.hid (by rw [← hw0]; exact (Keeps.refl _ _).alloc _)
  have HR0 : Hid (Whole w0 w.heap.size 25 node0) := Lib.hid (by rw [← hw0]; exact heap_alloc_new w _)
  rw [hw0] at hsz0
  have HX := Lib.hid (hx.same HS0.out)
  have HSP := Lib.hid hsp
  have HN := Lib.hid hn
  have HCN := Lib.hid hcn
  have HNW := Lib.hid (neweye_w ao c bs w0 (by rw [hn]; exact HX.out) (by omega) (by omega) hcn)
  rw [hn] at HNW
  obtain ⟨p1, hp1⟩ : ∃ p, numTo bs 0 1 = p := ⟨_, rfl⟩
  obtain ⟨p2, hp2⟩ : ∃ p, numTo bs p1 1 = p := ⟨_, rfl⟩
  obtain ⟨p3, hp3⟩ : ∃ p, numTo bs p2 1 = p := ⟨_, rfl⟩
  obtain ⟨cnt, hcnt⟩ : ∃ p, numAt bs p2 1 = p := ⟨_, rfl⟩
  rw [hp1] at hlv
  have HDR := Lib.hid (hdr_of hp1 hp2 hp3 hlv hcnt)
  have hcl : cnt < 256 := by have := numAt_lt bs p2 1; omega
  skip
  have HP : Hid (numTo bs 0 1 = p1 ∧ numTo bs p1 1 = p2 ∧ numTo bs p2 1 = p3 ∧ numAt bs p1 1 = 0 ∧ numAt bs p2 1 = cnt) := Lib.hid ⟨hp1, hp2, hp3, hlv, hcnt⟩
  skip
  clear hx hsp hn hcn hw0 hp1 hp2 hp3 hlv hcnt
  go_enter Try.func13, Try.ntmps13
  go_wp2_with fail
  rw [HW0.out]
  ((with_reducible refine HNW.out.mono ?_); rintro e w1 ⟨E, yv, rfl, hy1⟩)
  have HY1 := Lib.hid hy1
  clear hy1 HNW
  go_wp2_with fail
  ((with_reducible refine (eyeuint_c E bs 0 1 _ _ HY1.out (by omega) (by omega) (by omega) (by omega)).mono ?_); rintro e w2 ⟨er1, rfl, hy2, hk2⟩)
  rw [HP.out.1] at hy2
  have HY2 := Lib.hid hy2
  clear hy2 hk2 HY1
  go_wp2_with fail
  ((with_reducible refine (eyeuint_c E bs p1 1 _ _ HY2.out (by omega) (by omega) (by omega) (by omega)).mono ?_); rintro e w3 ⟨er2, rfl, hy3, hk3⟩)
  rw [HP.out.2.1] at hy3
  rw [HP.out.2.2.2.1]
  have HY3 := Lib.hid hy3
  clear hy3 hk3 HY2
  go_wp2_with fail
  ((with_reducible refine (eyeuint_c E bs p2 1 _ _ HY3.out (by omega) (by omega) (by omega) (by omega)).mono ?_); rintro e w4 ⟨er3, rfl, hy4, hk4⟩)
  rw [HP.out.2.2.1] at hy4
  rw [HP.out.2.2.2.2]
  have HN5 : Hid (NSt w0 (w4.alloc (.cells #[.int .i64 0, .slice none 0 0, .slice none 0 0] 25)) E w4.heap.size yv bs p3 0 (.slice none 0 0) (.slice none 0 0) (w4.heap.size + 1) [] []) := Lib.hid (by
    have hE := hy4.lt
    have hrow := hy4.row_lt
    have hsw := hy4.same.size
    exact ⟨hy4.same' ((Keeps.refl _ _).alloc _), heap_alloc_new w4 _, PRow.nil _ _, KRow.nil _ _, hsw, hy4.new, ⟨by omega, by omega, by omega⟩, fun j e => by have := hrow j e; omega, by simp⟩)
  have hw4 : w0.heap.size ≤ w4.heap.size := hy4.same.size
  clear hy4 hk4 HY3
  go_wp2
  go_loopw [35] (fun i wr => ∃ (j pos : Nat) (u : Value) (ps : List PairX), j ≤ cnt ∧ i = .int .u64 j ∧ many (codecP.part bs) j p3 = some (kvs ps, pos) ∧ NSt w0 wr E w4.heap.size yv bs pos 0 u (.slice none 0 0) (w4.heap.size + 1) ps []) (fun i _ => cnt - (intOf i).toNat)
  case atStart => exact ⟨0, p3, .slice none 0 0, [], by omega, rfl, rfl, HN5.out⟩
  case round =>
    obtain ⟨j, pos, u, ps, hj, rfl, hmany, hst⟩ := hrel
    have HST := Lib.hid hst
    have HM := Lib.hid hmany
    have hjl : ps.length = j := by have := many_len _ hmany; rw [kvs_length] at this; exact this
    have HJL := Lib.hid hjl
    clear hst hmany HN5
    by_cases hlt : j < cnt
    · have hlt2 : (j : Int) < (cnt : Int) := by omega
      have ju : IntKind.u64.wrap ((j : Int) + 1) = (j : Int) + 1 := u64_wrap_in _ (by omega) (by omega)
      have hle : ps.length ≤ 1000 := by omega
      clear hjl
      go_wp2_with fail
      ((with_reducible refine (readPart_pair _ HST.out (by omega) hle).mono ?_); rintro e w6 hpost)
      rcases hpost with ⟨er, rfl, her, hnone, hsame⟩ | ⟨u2, p, j2, rfl, hsome, hst6⟩
      · have her2 : (er == 0) = false := by simpa using her
        have HNO : Hid (∀ lv ps ks, NFit lv ps ks → nodeB lv.toNat ps ks ≠ bs) := Lib.hid (fun lv ps' ks' hf hb => by
          obtain ⟨h1, h2, h3⟩ := HDR.out lv ps' ks' hf hb
          have hn := many_none' (many_stop HM.out hnone) (show j + 1 ≤ cnt by omega)
          obtain ⟨_, h4⟩ := h2 h1
          rw [hn] at h4
          simp at h4)
        have HR6 := Lib.hid (HR0.out.keep hsame (fun e => e))
        have HEND : Hid (Same w (w6.setRow w.heap.size node0.toArray) ∧ Whole (w6.setRow w.heap.size node0.toArray) w.heap.size 25 node0) := Lib.hid
          ⟨(HS0.out.trans hsame (fun _ _ e => e)).setRow _ _ (.inl (Nat.le_refl _)), HR6.out.row⟩
        clear her hnone hsame
        go_wp2_with (first
            | (refine wpList_store_row (by rfl) 25 _ _ (by rfl) w.heap.size node0.toArray (by rfl) (by rfl) 25 node0.toArray HR6.out HIO.out rfl node0_all ?_))
        refine bodyPost_ret (v := .tuple #[.agg node0.toArray, .int .i64 22]) (results_row_tmp (p := 2) (u := 3) (ty := 25) rfl _ _ w.heap.size 25 _ (0, 0) _ (by rfl) HEND.out.2 Try.underlying25 rfl HIO.out) rfl
          (RdPost.no HEND.out.1 HNO.out)
      · have HST6 := Lib.hid hst6
        have HM6 : Hid (many (codecP.part bs) (j + 1) p3 = some (kvs (ps ++ [p]), j2)) := Lib.hid (by
          rw [many_go HM.out hsome]; simp [kvs])
        clear hst6 hsome
        go_wp2
        go_roundw
        case rel => exact ⟨j + 1, j2, u2, ps ++ [p], by omega, by go_num, HM6.out, HST6.out⟩
        case measure => simp [intOf]; omega
    · obtain rfl : j = cnt := by omega
      have hlt2 : ¬ (j : Int) < (j : Int) := by omega
      obtain ⟨ao2, c2, rfl, hprs, hcap⟩ := HST.out.pr.pairs
      have HPR := Lib.hid hprs
      have hsp1 := (many_split codecP bs p3 (by
        have h1 := HP.out.1; have h2 := HP.out.2.1; have h3 := HP.out.2.2.1
        unfold numTo at h1 h2 h3
        split at h1 <;> split at h2 <;> split at h3 <;> omega) j HM.out)
      have hfl : ((kvs ps).flatMap codecP.enc).length ≤ 470 := by
        have h1 := congrArg List.length hsp1.1
        simp only [List.length_drop, List.length_append] at h1
        omega
      have HOK := Lib.hid hsp1.2.2.2
      have HUN : Hid (∀ lv ps' ks', NFit lv ps' ks' → nodeB lv.toNat ps' ks' = bs → NFit (0 : Int) (kvs ps) (kks []) ∧ nodeB (0 : Int).toNat (kvs ps) (kks []) = bs) := Lib.hid (fun lv ps' ks' hf hb => by
        obtain ⟨h1, h2, h3⟩ := HDR.out lv ps' ks' hf hb
        obtain ⟨h5, h4⟩ := h2 h1
        rw [HM.out] at h4
        simp only [Option.some.injEq, Prod.mk.injEq] at h4
        rw [h5, ← h4.1, h1] at hf hb
        exact ⟨hf, hb⟩)
      have HST9 := Lib.hid HST.out
      have cG0 := HST.out.node.cell (i := 0) rfl
      have cG1 := HST.out.node.cell (i := 1) rfl
      have cG2 := HST.out.node.cell (i := 2) rfl
      have HNA : Hid (NodeAt wr ao2 none ps [] c2 0) := Lib.hid ⟨hprs, .inl rfl, hcap, Nat.le_refl _⟩
      have HWR := Lib.hid (nodeWrite_any 0 ao2 none ps.length c2 0 0 ps [] wr HNA.out rfl rfl (by rw [← flatP_len]; omega) (fun k hk => by simp at hk) (by omega))
      have HS9 := Lib.hid HST.out.eye.same
      clear hprs hsp1 hfl hjl
      go_wp2_with fail
      ((with_reducible refine HWR.out.mono ?_); rintro e w8 ⟨hk8, v, b, er, rfl, hrd, hfr, hcs⟩)
      have HR8 := Lib.hid ((HR0.out.keep HS9.out (fun e => e)).keep hk8 (fun e => e))
      have HS8 := Lib.hid ((HS0.out.trans HS9.out (fun _ _ e => e)).trans hk8 (fun _ _ e => e))
      have HENDN : Hid (Same w (w8.setRow w.heap.size node0.toArray) ∧ Whole (w8.setRow w.heap.size node0.toArray) w.heap.size 25 node0) := Lib.hid
        ⟨HS8.out.setRow _ _ (.inl (Nat.le_refl _)), HR8.out.row⟩
      have HN8 := Lib.hid (HST9.out.same hk8)
      clear cG0 cG1 cG2 HWR HST HST9
      rcases hcs with ⟨hr, hle, rfl, rfl⟩ | hbad
      · obtain ⟨vo, vc, rfl, hb8, hs8, hc8⟩ := hrd
        have HX8 := Lib.hid (HX.out.same (HS9.out.trans hk8 (fun _ _ e => e)))
        have HFT : Hid (NFit (0 : Int) (kvs ps) (kks [])) := Lib.hid ⟨hr, fun k hk => by simp [kks] at hk, hle⟩
        obtain ⟨Y, hY⟩ : ∃ Y, nodeB (0 : Int).toNat (kvs ps) (kks []) = Y := ⟨_, rfl⟩
        rw [hY] at hb8 hs8 hc8 HUN ⊢
        have HYY := Lib.hid hY
        have hbn : Bytes w8 (.slice ao bs.length c) bs := by rw [HN.out]; exact HX8.out
        have HEQ0 := bytesEqual_any vo ao Y bs vc c w8 hb8 hbn hs8 HSP.out
        rw [HN.out] at HEQ0
        have HEQ := Lib.hid HEQ0
        clear hY hb8 hs8 hc8 hbn HEQ0 hr hle hk8
        by_cases hE : Y = bs
        · rw [decide_eq_true hE] at HEQ
          have HE := Lib.hid hE
          have cG0 := HN8.out.node.cell (i := 0) rfl
          have cG1 := HN8.out.node.cell (i := 1) rfl
          have cG2 := HN8.out.node.cell (i := 2) rfl
          have HEND : Hid (Same w (w8.setRow w.heap.size ([.int .i64 0, .slice ao2 ps.length c2, .slice none 0 0] : List Value).toArray) ∧ Whole (w8.setRow w.heap.size ([.int .i64 0, .slice ao2 ps.length c2, .slice none 0 0] : List Value).toArray) w.heap.size 25 [.int .i64 0, .slice ao2 ps.length c2, .slice none 0 0]) := Lib.hid
            ⟨HS8.out.setRow _ _ (.inl (Nat.le_refl _)), HR8.out.row⟩
          have HFIN : Hid (∀ (S : Nat → Prop) w'', Keeps S (w8.setRow w.heap.size ([.int .i64 0, .slice ao2 ps.length c2, .slice none 0 0] : List Value).toArray) w'' → (∀ j, S j → j < w.heap.size) → NodeAt w'' ao2 none ps [] c2 0) := Lib.hid (fun S w'' k hS => by
            have k2 : Keeps (fun j => j = w.heap.size ∨ S j) w8 w'' := (((Keeps.refl (fun j => j = w.heap.size) w8).setRow _ _ (.inr rfl)).mono (fun _ _ e => .inl e)).trans (k.mono (fun _ _ e => .inr e)) (fun _ _ e => e)
            have h9 := HN8.out.pr.keep k2 (fun j e => by
              rcases e with e | e
              · omega
              · have := hS j e; omega)
            obtain ⟨ao3, c3, e3, hp3, hc3⟩ := h9.pairs
            simp only [Value.slice.injEq] at e3
            obtain ⟨rfl, _, rfl⟩ := e3
            exact ⟨hp3, .inl rfl, hc3, Nat.le_refl _⟩)
          clear hE
          go_wp2_with fail
          ((with_reducible refine HEQ.out.mono ?_); rintro e w12 ⟨rfl, h12⟩)
          subst h12
          go_wp2_with (first
            | (refine wpList_store_row (by rfl) 25 _ _ (by rfl) w.heap.size ([.int .i64 0, .slice ao2 ps.length c2, .slice none 0 0] : List Value).toArray (by rfl) (by rfl) 25 node0.toArray HR8.out HIO.out rfl (node_all _ _ _ _ _ _ _) ?_))
          refine bodyPost_ret (v := .tuple #[.agg ([.int .i64 0, .slice ao2 ps.length c2, .slice none 0 0] : List Value).toArray, .int .i64 0]) (results_row_tmp (p := 2) (u := 3) (ty := 25) rfl _ _ w.heap.size 25 _ (0, 0) _ (by rfl) HEND.out.2 Try.underlying25 rfl HIO.out) rfl
            ⟨HEND.out.1, 0, ao2, c2, none, 0, ps, [], 0, rfl, .inl ⟨HFT.out, HYY.out.trans HE.out, rfl⟩, HFIN.out⟩
        · rw [decide_eq_false hE] at HEQ
          have HNO : Hid (∀ lv ps ks, NFit lv ps ks → nodeB lv.toNat ps ks ≠ bs) := Lib.hid (fun lv ps' ks' hf hb => hE (HUN.out lv ps' ks' hf hb).2)
          clear hE
          go_wp2_with fail
          ((with_reducible refine HEQ.out.mono ?_); rintro e w12 ⟨rfl, h12⟩)
          subst h12
          go_wp2_with (first
            | (refine wpList_store_row (by rfl) 25 _ _ (by rfl) w.heap.size node0.toArray (by rfl) (by rfl) 25 node0.toArray HR8.out HIO.out rfl node0_all ?_))
          refine bodyPost_ret (v := .tuple #[.agg node0.toArray, .int .i64 22]) (results_row_tmp (p := 2) (u := 3) (ty := 25) rfl _ _ w.heap.size 25 _ (0, 0) _ (by rfl) HENDN.out.2 Try.underlying25 rfl HIO.out) rfl
            (RdPost.no HENDN.out.1 HNO.out)
      · have HNO : Hid (∀ lv ps ks, NFit lv ps ks → nodeB lv.toNat ps ks ≠ bs) := Lib.hid (fun lv ps' ks' hf hb => by
          have h1 := (HUN.out lv ps' ks' hf hb).1
          rcases hbad with ⟨_, h2, _⟩ | ⟨h2, _⟩
          · have := h1.2.2; omega
          · exact h2 h1.1)
        have her : er = 23 ∨ er = 1 := by
          rcases hbad with ⟨_, _, _, rfl⟩ | ⟨_, _, rfl⟩
          · exact .inl rfl
          · exact .inr rfl
        clear hbad hrd hfr hk8
        rcases her with rfl | rfl
        all_goals
          go_wp2_with (first
            | (refine wpList_store_row (by rfl) 25 _ _ (by rfl) w.heap.size node0.toArray (by rfl) (by rfl) 25 node0.toArray HR8.out HIO.out rfl node0_all ?_))
          refine bodyPost_ret (v := .tuple #[.agg node0.toArray, .int .i64 22]) (results_row_tmp (p := 2) (u := 3) (ty := 25) rfl _ _ w.heap.size 25 _ (0, 0) _ (by rfl) HENDN.out.2 Try.underlying25 rfl HIO.out) rfl
            (RdPost.no HENDN.out.1 HNO.out)
end Go.Proofs.Ytdeajjppmgfemaa
