/- What sector.ReadSuper does. -/
import Derived.Test.YtiddnhnfpggomaaDoorSec3
import Derived.Laws.ResultCell
namespace Go.Proofs.YtiddnhnfpggomaaDoor
open Go.RowKit
set_option linter.unusedVariables false

theorem Tryd.zeroSup (w : World) : (zeroValue 34).run Tryd.prog w = .ok (.agg sup0.cells.toArray) w := by kernel_rfl
theorem cells_length (s : Sup) (h : s.head.length = 32) : s.cells.length = 37 := by simp [Sup.cells, u8s_length, h]
theorem Tryd.sizeSup (s : Sup) (h : s.head.length = 32) : (Tryd.prog.info? 34).map (·.size) = some s.cells.toArray.size := by
  have e : s.cells.toArray.size = 37 := by rw [List.size_toArray]; exact cells_length s h
  have e2 : (Tryd.prog.info? 34).map (·.size) = some 37 := by kernel_rfl
  rw [e]; exact e2
theorem sup_all (s : Sup) : s.cells.toArray.all (·.oneCell') = true := by
  rw [Array.all_eq_true_iff_forall_mem]
  intro v hv
  have hv' : v ∈ s.cells := by simpa using hv
  unfold Sup.cells at hv'
  rcases List.mem_append.1 hv' with h | h
  · simp at h
    rcases h with rfl | rfl | rfl | rfl | rfl <;> rfl
  · exact u8s_cell _ v h
theorem results_row_tmp {P : Program} {fn : Func} {p u : Tmp} {ty : TypeId} (h : fn.results = #[.cell p ty, .tmp u]) (tmps : Array Value) (w : World) (g : Nat) (t : TypeId) (cs : Array Value) (fr : Nat × Nat) (d : TypeDesc)
    (hp : tmps.getD p undef = .pointer (some ⟨g, 0, none⟩)) (hg : w.heap[g]? = some (.cells cs t fr))
    (hu : P.underlying ty = some d) (hd : (match d with | .struct _ | .array _ _ => true | _ => false) = true) (hi : (P.info? ty).map (·.size) = some cs.size) :
    (results fn tmps).run P w = .ok (.tuple #[.agg cs, tmps.getD u undef]) w := by
  rw [results_cell_tmp h, hp]
  simp [asAddr, run_loadVar_row w g t ty cs fr d hg hu hd hi]

/-- Five numbers and an array as cells. -/
def nsCells (ns : List Nat) (hd : List UInt8) : List Value := ns.map (fun n => Value.int .u64 ((n : Nat) : Int)) ++ u8s hd
theorem nsCells_sup (s : Sup) : nsCells s.nums s.head = s.cells := rfl
theorem nsCells_set (ns : List Nat) (hd : List UInt8) (k x : Nat) (h : k < ns.length) : (nsCells ns hd).set k (.int .u64 (x : Nat)) = nsCells (ns.set k x) hd := by
  unfold nsCells
  rw [List.set_append_left _ _ (by simpa using h), List.map_set]
theorem take_set_succ (ns ms : List Nat) (k x : Nat) (hk : k < ns.length) (hm : k < ms.length) (h : ns.take k = ms.take k) (hx : x = ms[k]) : (ns.set k x).take (k + 1) = ms.take (k + 1) := by
  rw [List.take_succ_eq_append_getElem (by simpa using hk), List.take_succ_eq_append_getElem hm, List.take_set_of_le (Nat.le_refl k), h]
  simp [hx]
theorem nums_at (bs : List UInt8) (k : Nat) (h : k < 5) : (supOf bs).nums[k]? = some (beVal ((bs.drop (1 + 8 * k)).take 8)) := by
  match k, h with
  | 0, _ => rfl
  | 1, _ => rfl
  | 2, _ => rfl
  | 3, _ => rfl
  | 4, _ => rfl
theorem sup_of_list (ns : List Nat) (hd : List UInt8) (h : ns.length = 5) (hlt : ∀ n ∈ ns, n < 18446744073709551616) (hh : hd.length = 32) : ∃ s : Sup, s.Ok ∧ s.nums = ns ∧ s.head = hd ∧ nsCells ns hd = s.cells := by
  match ns, h with
  | [a, b, c, d, e], _ => exact ⟨⟨a, b, c, d, e, hd⟩, ⟨hlt a (by simp), hlt b (by simp), hlt c (by simp), hlt d (by simp), hlt e (by simp), hh⟩, rfl, rfl, rfl⟩
theorem sup_ext (s t : Sup) (h : s.nums = t.nums) (hh : s.head = t.head) : s = t := by
  cases s; cases t
  simp [Sup.nums] at h
  simp at hh
  simp [h, hh]

set_option maxRecDepth 100000 in
set_option maxHeartbeats 12800000 in
theorem readSuper_any (ao : Option Addr) (c : Nat) (bs : List UInt8) (w : World) (hN : Nums w) (hx : Bytes w (.slice ao bs.length c) bs) (hsp : ∀ x, ao = some x → bs ≠ [] → x.spot = none) (hc : bs.length ≤ c) (hl : bs.length ≤ 140737488351232) (hcn : ao = none → c = 0) :
    Calls Tryd.prog 14 #[.slice ao bs.length c] w fun e w' => Same w w' ∧ ((∃ s : Sup, s.Ok ∧ bs = superB s ∧ e = .returned (.tuple #[.agg s.cells.toArray, .int .i64 0])) ∨
      ((∀ s : Sup, s.Ok → bs ≠ superB s) ∧ e = .returned (.tuple #[.agg sup0.cells.toArray, .int .i64 22]))) := by
  have hzs := Tryd.zeroSup
  have HN := Lib.hid hN
  have HX := Lib.hid hx
  have HSP := Lib.hid hsp
  have HCN := Lib.hid hcn
  have HR0 : Hid (Whole (w.alloc (.cells sup0.cells.toArray 34)) w.heap.size 34 sup0.cells) := Lib.hid (heap_alloc_new w _)
  have HX0 : Hid (Bytes (w.alloc (.cells sup0.cells.toArray 34)) (.slice ao bs.length c) bs) := Lib.hid (hx.same ((Keeps.refl _ _).alloc _))
  have h01 : w.heap.size < (w.alloc (.cells sup0.cells.toArray 34)).heap.size := by simp
  clear hN hx hsp hcn
  go_enter Tryd.func14, Tryd.ntmps14
  go_wp2_with fail
  ((with_reducible refine (neweye_w ao c bs _ HX0.out hc hl HCN.out).mono ?_); rintro e w1 ⟨E, yv, rfl, hy1⟩)
  have hR1 : Whole w1 w.heap.size 34 sup0.cells := HR0.out.keep hy1.same (fun e => e)
  have hE : w.heap.size < E := by have := hy1.new; omega
  have hk1 : Same w w1 := ((Keeps.refl _ _).alloc _).trans hy1.same (fun _ _ e => e)
  have HY1 := Lib.hid hy1
  have HR1 := Lib.hid hR1
  have HK1 := Lib.hid hk1
  clear hy1 hR1 hk1 HR0 HX0 HCN h01
  go_wp2_with fail
  ((with_reducible refine (eyeuint_w E bs 0 1 _ _ HY1.out hl (by omega) (by omega) (by omega)).mono ?_); rintro e w2 ⟨x0, e0, i0, rfl, hy2, -, h2a, h2b, hk2⟩)
  have HY2 := Lib.hid hy2
  have HR2 : Hid (Whole w2 w.heap.size 34 sup0.cells) := Lib.hid (HR1.out.keep hk2 (by omega))
  have HI0 : Hid (bs.length = 512 → i0 = 1) := Lib.hid (fun hq => (h2a (by omega)).2.2)
  have HK2 : Hid (Same w w2) := Lib.hid (HK1.out.trans hk2 (fun j hj e => by omega))
  have hE2 := hy2.lt
  have HROW := Lib.hid hy2.row_lt
  clear hy2 h2a h2b hk2 HY1 HR1 HK1
  have HN2 : Hid ((w2.alloc (.cells sup0.cells.toArray 34)).heap[w2.heap.size]? = some (.cells sup0.cells.toArray 34 (0, 0))) := Lib.hid (heap_alloc_new w2 _)
  have HI2 := Lib.hid (Tryd.sizeSup sup0 (by simp [sup0]))
  obtain ⟨w3, hw3⟩ : ∃ w3, (w2.alloc (.cells sup0.cells.toArray 34)).setRow w2.heap.size sup0.cells.toArray = w3 := ⟨_, rfl⟩
  have HS3 : Hid (Whole w3 w2.heap.size 34 sup0.cells) := Lib.hid (by rw [← hw3]; exact Whole.row (cs := sup0.cells) (heap_alloc_new w2 _))
  have hk23 : Same w2 w3 := by rw [← hw3]; exact ((Keeps.refl _ _).alloc _).setRow _ _ (.inl (Nat.le_refl _))
  have hs23 : w2.heap.size < w3.heap.size := HS3.out.lt
  have HY3 := Lib.hid (HY2.out.same' hk23)
  have HR3 : Hid (Whole w3 w.heap.size 34 sup0.cells) := Lib.hid (HR2.out.keep hk23 (fun e => e))
  have HK3 : Hid (Same w w3) := Lib.hid (HK2.out.trans hk23 (fun _ _ e => e))
  have HW3 := Lib.hid hw3
  clear hw3 hk23 HY2 HR2 HK2
  generalize hS : w2.heap.size = S at *
  go_wp2_with (first
    | (refine wpList_buildTo (by rfl) 34 _ (by rfl) _ (by rfl) sup0.cells.toArray (by kernel_rfl) ?_)
    | (refine wpList_store_row (by rfl) 34 _ _ (by rfl) S sup0.cells.toArray (by rfl) (by rfl) 34 sup0.cells.toArray HN2.out HI2.out rfl (sup_all _) ?_; rw [HW3.out]))
  ((with_reducible refine (numbers_any S _).mono ?_); rintro e w4 ⟨R, rfl, hr4, hk4, hR⟩)
  have hs34 := hk4.size
  have hRl := hr4.lt
  have HR4 := Lib.hid hr4
  have HY4 := Lib.hid (HY3.out.same' hk4)
  have HS4 : Hid (Whole w4 S 34 (nsCells sup0.nums sup0.head)) := Lib.hid (HS3.out.keep hk4 (fun e => e))
  have HZ4 : Hid (Whole w4 w.heap.size 34 sup0.cells) := Lib.hid (HR3.out.keep hk4 (fun e => e))
  have HK4 : Hid (Same w w4) := Lib.hid (HK3.out.trans hk4 (fun _ _ e => e))
  clear hr4 hk4 HY3 HS3 HR3 HK3 HN2 HW3
  go_wp2
  go_loopw [7, 17, 21, 22, 23, 24, 25, 26, 27] (fun _ i _ _ _ _ _ _ _ wr => ∃ (k j : Nat) (ns : List Nat), k ≤ 5 ∧ i = .int .i64 k ∧ ns.length = 5 ∧ (∀ n ∈ ns, n < 18446744073709551616) ∧ (bs.length = 512 → j = 1 + 8 * k ∧ ns.take k = (supOf bs).nums.take k) ∧
    EyeW (w.alloc (.cells sup0.cells.toArray 34)) wr E yv bs j ∧ Whole wr S 34 (nsCells ns sup0.head) ∧ Whole wr w.heap.size 34 sup0.cells ∧ Whole wr R 61 (ptrs5 S) ∧ Same w wr) (fun _ i _ _ _ _ _ _ _ _ => 5 - (intOf i).toNat)
  case atStart => exact ⟨0, i0, sup0.nums, by omega, rfl, rfl, by simp [Sup.nums, sup0], fun hq => ⟨by have := HI0.out hq; omega, by simp⟩, HY4.out, HS4.out, HZ4.out, HR4.out, HK4.out⟩
  case round =>
    clear HR4 HY4 HS4 HZ4 HK4 HI0
    obtain ⟨k, j, ns, hk, rfl, hnl, hnlt, hj, hy, hsS, hz, hr, hkk⟩ := hrel
    obtain ⟨wo, rfl⟩ : ∃ wo : World, wo = wr := ⟨_, rfl⟩
    have HNL := Lib.hid hnl
    have HNLT := Lib.hid hnlt
    have HJ := Lib.hid hj
    have HY := Lib.hid hy
    have HS := Lib.hid hsS
    have HZ := Lib.hid hz
    have HR := Lib.hid hr
    have HK := Lib.hid hkk
    clear hnl hnlt hj hy hsS hz hr hkk
    by_cases hlt : k < 5
    · have hc1 : wo.cell? ⟨R, k, none⟩ = some (.pointer (some ⟨S, k, none⟩)) := HR.out.cell (ptrs5_get _ _ hlt)
      have hjk : (k : Int) < 5 := by omega
      have hj0 : (0 : Int) ≤ (k : Int) := by omega
      go_wp2_with fail
      ((with_reducible refine (eyeuint_w E bs j 8 _ _ HY.out hl (by omega) (by omega) (by omega)).mono ?_); rintro e w5 ⟨x, er, j', rfl, hy5, hx5, h5a, h5b, hk5⟩)
      have HY5 := Lib.hid hy5
      have HS5 : Hid (Whole w5 S 34 (nsCells ns sup0.head)) := Lib.hid (HS.out.keep hk5 (by omega))
      have HZ5 : Hid (Whole w5 w.heap.size 34 sup0.cells) := Lib.hid (HZ.out.keep hk5 (by omega))
      have HR5 : Hid (Whole w5 R 61 (ptrs5 S)) := Lib.hid (HR.out.keep hk5 (by omega))
      have HK5 : Hid (Same w w5) := Lib.hid (HK.out.trans hk5 (fun j hj e => by omega))
      have HX5 : Hid (x < 18446744073709551616) := Lib.hid hx5
      have HJ5 : Hid (bs.length = 512 → j' = 1 + 8 * (k + 1) ∧ (ns.set k x).take (k + 1) = (supOf bs).nums.take (k + 1)) := Lib.hid (fun hq => by
        obtain ⟨e1, e2⟩ := HJ.out hq
        obtain ⟨f1, f2, f3⟩ := h5a (by omega)
        refine ⟨by omega, take_set_succ ns (supOf bs).nums k x (by have := HNL.out; omega) (by show k < 5; exact hlt) e2 ?_⟩
        have h6 := nums_at bs k hlt
        rw [← e1, ← f1] at h6
        exact ((List.getElem?_eq_some_iff.1 h6).2).symm)
      have hfr : w5.frozen? ⟨S, k, none⟩ = false := HS5.out.free k
      clear hy5 hx5 h5a h5b hk5
      have hc5 : w5.cell? ⟨S, k, none⟩ = some (.int .u64 ((ns.getD k 0 : Nat) : Int)) := HS5.out.cell (by
        unfold nsCells
        have := HNL.out
        rw [List.getElem?_append_left (by simp; omega)]
        simp [show k < ns.length by omega])
      go_wp2
      go_roundw
      case rel =>
        refine ⟨k + 1, j', ns.set k x, by omega, by go_num, by rw [List.length_set]; exact HNL.out, ?_, HJ5.out, HY5.out.keep' (S := fun q => q = S) ((Keeps.refl _ _).setCell _ _ (.inr rfl)) (by omega) (fun q e e2 => by have := (HROW.out q e).2; omega) (fun q e => by have := HK5.out.size; simp; omega), ?_, HZ5.out.far _ (by simp only; omega) _, HR5.out.far _ (by simp only; omega) _, HK5.out.setCell _ _ (.inl (by simp only; omega))⟩
        · intro n hn
          rcases List.mem_or_eq_of_mem_set hn with h | h
          · exact HNLT.out n h
          · rw [h]; exact HX5.out
        · have h7 := HS5.out.set k (.int .u64 ((x : Nat) : Int))
          rw [nsCells_set ns _ k x (by have := HNL.out; omega)] at h7
          exact h7
      case measure => simp [intOf]; omega
    · have hk5 : k = 5 := by omega
      subst hk5
      go_wp2_with fail
      ((with_reducible refine (eyeraw_w E bs j 32 _ _ HY.out hl (by omega) (by omega)).mono ?_); rintro e w6 ⟨r, er, j', b, rfl, hy6, ho6, h6a, h6b, hk6⟩)
      obtain ⟨bo, bc, rfl⟩ := (Bytes.of_own ho6).form
      have HY6 := Lib.hid hy6
      have HO6 := Lib.hid ho6
      have HS6 : Hid (Whole w6 S 34 (nsCells ns sup0.head)) := Lib.hid (HS.out.keep hk6 (by omega))
      have HZ6 : Hid (Whole w6 w.heap.size 34 sup0.cells) := Lib.hid (HZ.out.keep hk6 (by omega))
      have HK6 : Hid (Same w w6) := Lib.hid (HK.out.trans hk6 (fun j hj e => by omega))
      have hb32 : b.length = 32 ∨ b = [] := by
        by_cases hq : j + 32 ≤ bs.length
        · left; rw [(h6a hq).1]; simp; omega
        · right; exact (h6b (by omega)).1
      have hbl : b.length ≤ 32 := by rcases hb32 with h | h <;> simp [h]
      have HB6 : Hid (bs.length = 512 → ns = (supOf bs).nums ∧ b = (supOf bs).head) := Lib.hid (fun hq => by
        obtain ⟨e1, e2⟩ := HJ.out hq
        obtain ⟨f1, f2, f3⟩ := h6a (by omega)
        refine ⟨?_, ?_⟩
        · rw [List.take_of_length_le (by rw [HNL.out]; omega), List.take_of_length_le (by show 5 ≤ 5; omega)] at e2
          exact e2
        · rw [f1, e1]; rfl)
      obtain ⟨w7, hrun, hwh, hk7⟩ := run_copy_whole (P := Tryd.prog) w6 22 22 3 5 S 5 32 32 (.slice bo b.length bc) b (nsCells ns sup0.head) 34 Tryd.underlying22 (by kernel_rfl) HS6.out (Bytes.of_own HO6.out) (by unfold nsCells; simp [u8s_length, HNL.out, sup0])
      obtain ⟨hd, hhd, hhl, hh5⟩ : ∃ hd : List UInt8, (nsCells ns sup0.head).take 5 ++ u8s (b.take (min b.length 32)) ++ (nsCells ns sup0.head).drop (5 + min b.length 32) = nsCells ns hd ∧ hd.length = 32 ∧ (b.length = 32 → hd = b) := by
        have hn5 : (ns.map (fun n => Value.int .u64 ((n : Nat) : Int))).length = 5 := by rw [List.length_map]; exact HNL.out
        have h0 : (nsCells ns sup0.head).take 5 = ns.map (fun n => Value.int .u64 ((n : Nat) : Int)) := by
          unfold nsCells; rw [List.take_append_of_le_length (by omega), List.take_of_length_le (by omega)]
        rcases hb32 with h | h
        · refine ⟨b, ?_, h, fun _ => rfl⟩
          rw [h0, h, show min 32 32 = 32 from rfl, List.take_of_length_le (by omega)]
          rw [List.drop_of_length_le (by unfold nsCells; rw [List.length_append, hn5]; simp [u8s_length, sup0]), List.append_nil]
          rfl
        · subst h
          refine ⟨sup0.head, ?_, by simp [sup0], fun h => by simp at h⟩
          simp [u8s]
      rw [hhd] at hwh
      rw [show min b.length 32 = b.length from by omega] at hrun
      obtain ⟨s, hsok, hsn, hsh, hsc⟩ := sup_of_list ns hd HNL.out HNLT.out hhl
      rw [hsc] at hwh
      have HS7 := Lib.hid hwh
      have HRUN := Lib.hid hrun
      have HZ7 : Hid (Whole w7 w.heap.size 34 sup0.cells) := Lib.hid (HZ6.out.keep hk7 (by omega))
      have HK7 : Hid (Same w w7) := Lib.hid (HK6.out.trans hk7 (fun j hj e => by omega))
      have HOK := Lib.hid hsok
      have HI7 := Lib.hid (Tryd.sizeSup s hsok.head)
      have HG7 : Hid (bs.length = 512 → s = supOf bs) := Lib.hid (fun hq => by
        obtain ⟨e1, e2⟩ := HB6.out hq
        have h3 : b.length = 32 := by rw [e2]; simp [supOf]; omega
        exact sup_ext s _ (hsn.trans e1) ((hsh.trans (hh5 h3)).trans e2))
      clear hy6 ho6 h6a h6b hk6 hrun hwh hk7 hhd hh5 hsn hsh hsc hsok hb32 HB6 HO6 HS6 HZ6 HK6 HY6
      go_wp2_with (first
        | (refine Lib.wpList_copy_run _ (by rfl) _ _ 22 22 (by rfl) _ _ (by rfl) (by rfl) HRUN.out ?_)
        | (refine wpList_load_row (by rfl) 34 _ (by rfl) S (by rfl) 34 s.cells.toArray (0, 0) _ HS7.out Tryd.underlying34 rfl HI7.out ?_))
      ((with_reducible refine (super_any s HOK.out _ (HN.out.keep HK7.out (fun e => e))).mono ?_); rintro e w8 ⟨g, cap, rfl, ho8, hk8⟩)
      have HK8 : Hid (Same w w8) := Lib.hid (HK7.out.trans hk8 (fun _ _ e => e))
      have HS8 : Hid (Whole w8 S 34 s.cells) := Lib.hid (HS7.out.keep hk8 (fun e => e))
      have HZ8 : Hid (Whole w8 w.heap.size 34 sup0.cells) := Lib.hid (HZ7.out.keep hk8 (fun e => e))
      have hwl := superB_length s HOK.out
      have hby8 : Bytes w8 (.slice (some ⟨g, 0, none⟩) (superB s).length cap) (superB s) := by rw [hwl]; exact Bytes.of_own' ho8 hwl
      have heq := bytesEqual_any (some ⟨g, 0, none⟩) ao (superB s) bs cap c w8 hby8 (HX.out.same HK8.out) (fun x e _ => by cases e; rfl) HSP.out
      rw [hwl] at heq
      have HWL := Lib.hid hwl
      have HEQ := Lib.hid heq
      clear ho8 hk8 hby8 heq hwl HS7 HZ7 HRUN
      by_cases hwb : superB s = bs
      · have HW := Lib.hid hwb
        rw [decide_eq_true hwb] at HEQ
        clear hwb
        have HSZ : Hid (sup0.cells.toArray.size = s.cells.toArray.size) := Lib.hid (by
          rw [List.size_toArray, List.size_toArray, cells_length s HOK.out.head, cells_length sup0 (by simp [sup0])])
        have HEND : Hid (Same w (w8.setRow w.heap.size s.cells.toArray) ∧ Whole (w8.setRow w.heap.size s.cells.toArray) w.heap.size 34 s.cells) := Lib.hid
          ⟨HK8.out.setRow _ _ (.inl (Nat.le_refl _)), HZ8.out.row⟩
        go_wp2_with fail
        ((with_reducible refine HEQ.out.mono ?_); rintro e w9 ⟨rfl, h9⟩)
        subst h9
        go_wp2_with (first
          | (refine wpList_load_row (by rfl) 34 _ (by rfl) S (by rfl) 34 s.cells.toArray (0, 0) _ HS8.out Tryd.underlying34 rfl HI7.out ?_)
          | (refine wpList_store_row (by rfl) 34 _ _ (by rfl) w.heap.size s.cells.toArray (by rfl) (by rfl) 34 sup0.cells.toArray HZ8.out HI7.out HSZ.out (sup_all _) ?_))
        refine bodyPost_ret (v := .tuple #[.agg s.cells.toArray, .int .i64 0]) (results_row_tmp (p := 2) (u := 3) (ty := 34) rfl _ _ w.heap.size 34 _ (0, 0) _ (by rfl) HEND.out.2 Tryd.underlying34 rfl HI7.out) rfl ⟨HEND.out.1, .inl ⟨s, HOK.out, HW.out.symm, rfl⟩⟩
      · have HW := Lib.hid hwb
        rw [decide_eq_false hwb] at HEQ
        clear hwb
        have HEND : Hid (Same w (w8.setRow w.heap.size sup0.cells.toArray) ∧ Whole (w8.setRow w.heap.size sup0.cells.toArray) w.heap.size 34 sup0.cells) := Lib.hid
          ⟨HK8.out.setRow _ _ (.inl (Nat.le_refl _)), HZ8.out.row⟩
        go_wp2_with fail
        ((with_reducible refine HEQ.out.mono ?_); rintro e w9 ⟨rfl, h9⟩)
        subst h9
        go_wp2_with (first
          | (refine wpList_buildTo (by rfl) 34 _ (by rfl) _ (by rfl) sup0.cells.toArray (by kernel_rfl) ?_)
          | (refine wpList_store_row (by rfl) 34 _ _ (by rfl) w.heap.size sup0.cells.toArray (by rfl) (by rfl) 34 sup0.cells.toArray HZ8.out HI2.out rfl (sup_all _) ?_))
        refine bodyPost_ret (v := .tuple #[.agg sup0.cells.toArray, .int .i64 22]) (results_row_tmp (p := 2) (u := 3) (ty := 34) rfl _ _ w.heap.size 34 _ (0, 0) _ (by rfl) HEND.out.2 Tryd.underlying34 rfl HI2.out) rfl ⟨HEND.out.1, .inr ⟨fun s' hs' hbs => ?_, rfl⟩⟩
        have h512 : bs.length = 512 := by rw [hbs]; exact superB_length s' hs'
        have h1 := HG7.out h512
        rw [hbs, supOf_superB s' hs'] at h1
        exact HW.out (by rw [h1, hbs])

end Go.Proofs.YtiddnhnfpggomaaDoor
