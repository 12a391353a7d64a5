/- wire.Read. -/
import Derived.Test.YtafgiljgefeefaaDoorWm15
import Derived.Deep.Cut
import Derived.Deep.CutRange
namespace Go.Proofs.YtafgiljgefeefaaDoor
open Go.RowKit
set_option linter.unusedVariables false

theorem Tryd.sizeWReader : (Tryd.prog.info? 91).map (·.size) = some 1 := by kernel_rfl
theorem built_three (a b c : Int) : Tryd.prog.built 45 [(0, .int .i64 a), (1, .int .i64 b), (2, .int .i64 c)] = some ({ zeroM with k := a, f := b, t := c } : Msg).cells.toArray := by kernel_rfl
theorem Tryd.infoHashW : (Tryd.prog.info? 32).map (fun i => (i.zero, i.size, i.bytes)) = some (some (.agg (u8s (List.replicate 32 0)).toArray), 32, 32) := by kernel_rfl
theorem Tryd.infoB8W : (Tryd.prog.info? 33).map (fun i => (i.zero, i.size, i.bytes)) = some (some (.slice none 0 0), 1, 24) := by kernel_rfl
theorem info_partsW {P : Program} {t : TypeId} {z : Value} {s b : Nat} (h : (P.info? t).map (fun i => (i.zero, i.size, i.bytes)) = some (some z, s, b)) : ∃ i, P.info? t = some i ∧ i.zero = some z ∧ i.size = s ∧ i.bytes = b := by
  cases hh : P.info? t with
  | none => rw [hh] at h; simp at h
  | some i =>
    rw [hh] at h
    simp only [Option.map_some, Option.some.injEq, Prod.mk.injEq] at h
    exact ⟨i, rfl, h.1, h.2.1, h.2.2⟩

/-- What Read does: these bytes are a right message's, or no message's. -/
def ReadPost (w : World) (bs : List UInt8) (e : Ending) (w' : World) : Prop :=
  Same w w' ∧ ∃ (m : Msg) (er : Int), e = .returned (.tuple #[.agg m.cells.toArray, .int .i64 er]) ∧ MsgIn w' m ∧ MsgBtw w.heap.size w'.heap.size m ∧ ((m.Right ∧ m.bytes = bs ∧ er = 0) ∨ ((∀ m' : Msg, m'.Good → m'.bytes ≠ bs) ∧ m = zeroM ∧ er = 22))

/-- An eye's text, as a slice of its length. -/
theorem wtext_w {w0 : World} {v : Value} (B : Nat) (bs : List UInt8) (i : Nat) (w : World) (h : EyeW w0 w B v bs i) (hl : bs.length ≤ 140737488351232) :
    Calls Tryd.prog 44 #[.pointer (some ⟨B, 0, none⟩)] w fun e w' => ∃ ao c er, e = .returned (.tuple #[.slice ao (txtAt bs i).length c, .int .i64 er]) ∧ Keeps (fun k => k = B) w w' ∧ EyeW w0 w' B v bs (txtTo bs i) ∧ w'.ownsRow w.heap.size 5 1 (.slice ao (txtAt bs i).length c) (txtAt bs i).length (u8s (txtAt bs i)) := by
  refine (eyetext_w B bs i w h hl).mono fun e w' ⟨r, er, j, b, he, hy, ho, ha, hb, hk⟩ => ?_
  obtain ⟨ao, c, hr⟩ := (Bytes.of_own ho).form
  subst hr
  by_cases q : TxtOk bs i
  · obtain ⟨e1, e2, e3⟩ := ha q
    have h1 : b = txtAt bs i := by unfold txtAt; rw [if_pos q]; exact e1
    have h2 : j = txtTo bs i := by unfold txtTo; rw [if_pos q, ← h1]; exact e3
    subst h1 h2
    exact ⟨ao, c, er, he, hk, hy, ho⟩
  · obtain ⟨e1, e2, e3⟩ := hb q
    have h1 : b = txtAt bs i := by unfold txtAt; rw [if_neg q]; exact e1
    have h2 : j = txtTo bs i := by unfold txtTo; rw [if_neg q]; exact e3
    subst h1 h2
    exact ⟨ao, c, er, he, hk, hy, ho⟩
theorem own_none {w : World} {base : Nat} {e : TypeId} {sz n m c : Nat} {xs : List Value} {ao : Option Addr} (h : w.ownsRow base e sz (.slice ao m c) n xs) : ao = none → c = 0 := by
  intro e0
  subst e0
  rcases h.2 with ⟨h, h0⟩ | ⟨g, cp, cur, h, _⟩
  · simp only [Value.slice.injEq] at h; exact h.2.2
  · simp at h

set_option maxRecDepth 100000 in
set_option maxHeartbeats 25600000 in
theorem wireRead_any (ao : Option Addr) (c : Nat) (bs : List UInt8) (w : World) (hx : Bytes w (.slice ao bs.length c) bs) (hsp : ∀ x, ao = some x → bs ≠ [] → x.spot = none) (hc : bs.length ≤ c) (hl : bs.length ≤ 140737488351232) (hcn : ao = none → c = 0) (hN : Nums w) :
    Calls Tryd.prog 28 #[.slice ao bs.length c] w (ReadPost w bs) := by
  have hzm := Tryd.zeroMsgW
  have HX := Lib.hid hx
  have HSP := Lib.hid hsp
  have HCN := Lib.hid hcn
  have HNUM := Lib.hid hN
  have HIR := Lib.hid Tryd.sizeWReader
  obtain ⟨wz, hwz⟩ : ∃ wz, w.alloc (.cells zeroM.cells.toArray 45) = wz := ⟨_, rfl⟩
  have hzz : wz.heap.size = w.heap.size + 1 := by rw [← hwz]; simp
  have HZZ := Lib.hid hzz
  have hkz : Same w wz := by rw [← hwz]; exact (Keeps.refl _ _).alloc _
  have HR0 : Hid (Whole wz w.heap.size 45 zeroM.cells) := Lib.hid (by rw [← hwz]; exact heap_alloc_new w _)
  have HX0 : Hid (Bytes wz (.slice ao bs.length c) bs) := Lib.hid (hx.same hkz)
  have HKZ := Lib.hid hkz
  clear hx hsp hcn hN hkz
  go_enter Tryd.func28, Tryd.ntmps28
  go_wp2_with fail
  ((with_reducible refine (neweye_w ao c bs _ HX0.out hc hl HCN.out).mono ?_); rintro e w1 ⟨E, yv, rfl, hy1⟩)
  have hE : w.heap.size < E := by have := hy1.new; omega
  have hEl : E < w1.heap.size := hy1.lt
  have HYR : Hid (∀ j, yv.ownBlock = some j → j < w1.heap.size) := Lib.hid (fun j e => (hy1.row_lt j e).2)
  have HY1 := Lib.hid hy1
  have HR1 := Lib.hid (HR0.out.keep hy1.same (fun e => e))
  have HK1 : Hid (Same w w1) := Lib.hid (HKZ.out.trans hy1.same (fun _ _ e => e))
  clear hy1 HR0 HX0 HCN HKZ hzz hwz
  obtain ⟨w2, hw2⟩ : ∃ w2, w1.alloc (.cells #[.pointer (some ⟨E, 0, none⟩)] 91) = w2 := ⟨_, rfl⟩
  have hz2 : w2.heap.size = w1.heap.size + 1 := by rw [← hw2]; simp
  have hk2 : Same w1 w2 := by rw [← hw2]; exact (Keeps.refl _ _).alloc _
  have HP2 : Hid (Whole w2 w1.heap.size 91 [.pointer (some ⟨E, 0, none⟩)]) := Lib.hid (by rw [← hw2]; exact heap_alloc_new w1 _)
  have HY2 := Lib.hid (HY1.out.same' hk2)
  have HR2 := Lib.hid (HR1.out.keep hk2 (fun e => e))
  have HK2 : Hid (Same w w2) := Lib.hid (HK1.out.trans hk2 (fun _ _ e => e))
  have HB2 : Hid (w1.heap.size < w2.heap.size) := Lib.hid (by omega)
  clear hk2 HY1 HR1 HK1 hz2
  go_wp2_with (refine wpList_load_row (by rfl) 91 _ (by rfl) w1.heap.size (by rfl) 91 #[.pointer (some ⟨E, 0, none⟩)] (0, 0) _ HP2.out Tryd.underlying91 rfl HIR.out ?_)
  clear hw2
  generalize hB : w1.heap.size = B4 at *
  clear hB
  ((with_reducible refine (wnum_w E bs 0 1 1 _ HY2.out hl (by omega) (by omega) (by omega)).mono ?_); rintro e w3 ⟨rfl, hy3, hk3⟩)
  obtain ⟨i1, hi1⟩ : ∃ i, numTo bs 0 1 = i := ⟨_, rfl⟩
  rw [hi1] at hy3
  have hB4' : B4 < w2.heap.size := HB2.out
  have HY3 := Lib.hid hy3
  have HP3 := Lib.hid (HP2.out.keep hk3 (by omega))
  have HR3 := Lib.hid (HR2.out.keep hk3 (by omega))
  have HK3 : Hid (Same w w3) := Lib.hid (HK2.out.trans hk3 (fun q hq e => by omega))
  have hB4 : E < B4 ∧ B4 < w3.heap.size := ⟨hEl, by have := hk3.size; omega⟩
  clear hy3 hk3 HP2 HY2 HR2 HK2 HB2 hB4' hEl
  obtain ⟨n1, hn1⟩ : ∃ n, numAt bs i1 1 = n := ⟨_, rfl⟩
  obtain ⟨i2, hi2⟩ : ∃ i, numTo bs i1 1 = i := ⟨_, rfl⟩
  obtain ⟨n2, hn2⟩ : ∃ n, numAt bs i2 1 = n := ⟨_, rfl⟩
  obtain ⟨i3, hi3⟩ : ∃ i, numTo bs i2 1 = i := ⟨_, rfl⟩
  obtain ⟨n3, hn3⟩ : ∃ n, numAt bs i3 1 = n := ⟨_, rfl⟩
  obtain ⟨i4, hi4⟩ : ∃ i, numTo bs i3 1 = i := ⟨_, rfl⟩
  have b1 : n1 < 256 := by rw [← hn1]; exact numAt_lt bs i1 1
  have b2 : n2 < 256 := by rw [← hn2]; exact numAt_lt bs i2 1
  have b3 : n3 < 256 := by rw [← hn3]; exact numAt_lt bs i3 1
  have u1 : IntKind.i64.wrap (n1 : Int) = n1 := IntWalk.i64_in (n1 : Int) (by omega)
  have u2 : IntKind.i64.wrap (n2 : Int) = n2 := IntWalk.i64_in (n2 : Int) (by omega)
  have u3 : IntKind.i64.wrap (n3 : Int) = n3 := IntWalk.i64_in (n3 : Int) (by omega)
  obtain ⟨M1, hM1⟩ : ∃ M : Msg, ({ zeroM with k := (n1 : Int), f := (n2 : Int), t := (n3 : Int) } : Msg) = M := ⟨_, rfl⟩
  have HBU : Hid (Tryd.prog.built 45 [(0, .int .i64 (n1 : Int)), (1, .int .i64 (n2 : Int)), (2, .int .i64 (n3 : Int))] = some M1.cells.toArray) := Lib.hid (by rw [← hM1]; exact built_three _ _ _)
  have HHD1 : Hid (M1.hd.length = 32) := Lib.hid (by rw [← hM1]; rfl)
  have HIO := Lib.hid (Tryd.sizeMsgOf M1 HHD1.out)
  have HSE : Hid (zeroM.cells.toArray.size = M1.cells.toArray.size) := Lib.hid (by rw [List.size_toArray, List.size_toArray, M1.cells_length HHD1.out, zeroM.cells_length rfl])
  go_wp2_with fail
  refine wp_region_chain [[], [0], [1], [], [3, 1], [4], [], [6, 4], [7], [2, 5, 8], [], [10, 9, 7, 0, 1, 2, 3, 4, 5, 6, 7, 8, 9, 10]]
    [some 21, some 22, some 23, some 24, some 25, some 26, some 27, some 28, some 29, some 30, some 5, none]
    [.is (.agg #[.pointer (some ⟨E, 0, none⟩)]), .is (.int .u64 (n1 : Nat)), .is (.int .i64 (n1 : Nat)), .is (.agg #[.pointer (some ⟨E, 0, none⟩)]), .is (.int .u64 (n2 : Nat)), .is (.int .i64 (n2 : Nat)), .is (.agg #[.pointer (some ⟨E, 0, none⟩)]), .is (.int .u64 (n3 : Nat)), .is (.int .i64 (n3 : Nat)), .is (.agg M1.cells.toArray), .fresh 45 zeroM.cells.toArray, .any]
    (fun k => k = E) [1, 4, 7] (fun q w' => EyeW wz w' E yv bs ([i1, i2, i3, i4].getD q 0)) 3 _ _ 129 12 (by kernel_rfl) (by rfl) (by rfl) (by omega) (by kernel_rfl) (by kernel_rfl) (by decide) (by decide) (fun k e => by omega) HY3.out (fun _ _ _ h k => h.same' k) ?_
  refine ⟨?_, ?_, ?_, ?_, ?_, ?_, ?_, ?_, ?_, ?_, ?_, ?_⟩
  · intro a w' K hk hdep hfr hK
    have f := hfr 4 (by decide)
    exact plan_do (by rfl) (wp_load_row 91 (.tmp 4) rfl B4 ((eval_tmp _ _).trans f) 91 #[.pointer (some ⟨E, 0, none⟩)] (0, 0) _ (HP3.out.keep hk (by omega)) Tryd.underlying91 rfl HIR.out (hK _ _ (Keeps.refl _ _) rfl))
  · intro a w' K hk hdep hfr hE hK
    have e : a.tmps[21]?.getD undef = .agg #[.pointer (some ⟨E, 0, none⟩)] := hdep 0 (by decide) 21 rfl
    refine plan_do (by rfl) (plan_call 42 #[.agg #[.pointer (some ⟨E, 0, none⟩)], .int .i64 1] (by go_simp) ?_)
    exact (wnum_w E bs i1 1 1 w' hE hl (by omega) (by omega) (by omega)).mono fun e w'' ⟨he, hy, hk2⟩ => ⟨_, he, hK _ _ hk2 (by rw [hi2] at hy; exact hy) (by rw [hn1]; rfl)⟩
  · intro a w' K hk hdep hfr hK
    have e : a.tmps[22]?.getD undef = .int .u64 (n1 : Nat) := hdep 1 (by decide) 22 rfl
    exact plan_do (by rfl) (plan_yield (i := 2) (V := fun _ _ v => v = (.int .i64 (n1 : Nat) : Value)) _ (by go_simp) rfl hK)
  · intro a w' K hk hdep hfr hK
    have f := hfr 4 (by decide)
    exact plan_do (by rfl) (wp_load_row 91 (.tmp 4) rfl B4 ((eval_tmp _ _).trans f) 91 #[.pointer (some ⟨E, 0, none⟩)] (0, 0) _ (HP3.out.keep hk (by omega)) Tryd.underlying91 rfl HIR.out (hK _ _ (Keeps.refl _ _) rfl))
  · intro a w' K hk hdep hfr hE hK
    have e : a.tmps[24]?.getD undef = .agg #[.pointer (some ⟨E, 0, none⟩)] := hdep 3 (by decide) 24 rfl
    refine plan_do (by rfl) (plan_call 42 #[.agg #[.pointer (some ⟨E, 0, none⟩)], .int .i64 1] (by go_simp) ?_)
    exact (wnum_w E bs i2 1 1 w' hE hl (by omega) (by omega) (by omega)).mono fun e w'' ⟨he, hy, hk2⟩ => ⟨_, he, hK _ _ hk2 (by rw [hi3] at hy; exact hy) (by rw [hn2]; rfl)⟩
  · intro a w' K hk hdep hfr hK
    have e : a.tmps[25]?.getD undef = .int .u64 (n2 : Nat) := hdep 4 (by decide) 25 rfl
    exact plan_do (by rfl) (plan_yield (i := 5) (V := fun _ _ v => v = (.int .i64 (n2 : Nat) : Value)) _ (by go_simp) rfl hK)
  · intro a w' K hk hdep hfr hK
    have f := hfr 4 (by decide)
    exact plan_do (by rfl) (wp_load_row 91 (.tmp 4) rfl B4 ((eval_tmp _ _).trans f) 91 #[.pointer (some ⟨E, 0, none⟩)] (0, 0) _ (HP3.out.keep hk (by omega)) Tryd.underlying91 rfl HIR.out (hK _ _ (Keeps.refl _ _) rfl))
  · intro a w' K hk hdep hfr hE hK
    have e : a.tmps[27]?.getD undef = .agg #[.pointer (some ⟨E, 0, none⟩)] := hdep 6 (by decide) 27 rfl
    refine plan_do (by rfl) (plan_call 42 #[.agg #[.pointer (some ⟨E, 0, none⟩)], .int .i64 1] (by go_simp) ?_)
    exact (wnum_w E bs i3 1 1 w' hE hl (by omega) (by omega) (by omega)).mono fun e w'' ⟨he, hy, hk2⟩ => ⟨_, he, hK _ _ hk2 (by rw [hi4] at hy; exact hy) (by rw [hn3]; rfl)⟩
  · intro a w' K hk hdep hfr hK
    have e : a.tmps[28]?.getD undef = .int .u64 (n3 : Nat) := hdep 7 (by decide) 28 rfl
    exact plan_do (by rfl) (plan_yield (i := 8) (V := fun _ _ v => v = (.int .i64 (n3 : Nat) : Value)) _ (by go_simp) rfl hK)
  · intro a w' K hk hdep hfr hK
    have e23 : a.tmps[23]?.getD undef = .int .i64 (n1 : Nat) := hdep 2 (by decide) 23 rfl
    have e26 : a.tmps[26]?.getD undef = .int .i64 (n2 : Nat) := hdep 5 (by decide) 26 rfl
    have e29 : a.tmps[29]?.getD undef = .int .i64 (n3 : Nat) := hdep 8 (by decide) 29 rfl
    refine plan_do (by rfl) (plan_build 45 #[(0, .tmp 23), (1, .tmp 26), (2, .tmp 29)] rfl M1.cells.toArray ?_ (hK _ _ (Keeps.refl _ _) rfl))
    simp only [List.map_toArray, List.map_cons, List.map_nil, eval_tmp, e23, e26, e29]
    exact HBU.out
  · intro a w' K hk hdep hfr hK
    exact plan_do (by rfl) (plan_go (.pointer (some ⟨w'.heap.size, 0, none⟩)) (w'.alloc (.cells zeroM.cells.toArray 45)) (by go_simp) (hK _ _ ((Keeps.refl _ _).alloc _) ⟨_, rfl, hk.size, heap_alloc_new w' _⟩))
  intro a w4 hk hdef hsz hv hfr hE4
  have e30 : a.tmps[30]?.getD undef = .agg M1.cells.toArray := hv 9 30 (by omega) rfl
  obtain ⟨G, e5, hG, hcell⟩ : ∃ G, a.tmps[5]?.getD undef = .pointer (some ⟨G, 0, none⟩) ∧ w3.heap.size ≤ G ∧ w4.heap[G]? = some (.cells zeroM.cells.toArray 45 (0, 0)) := hv 10 5 (by omega) rfl
  have he := act_eq a _ [some 21, some 22, some 23, some 24, some 25, some 26, some 27, some 28, some 29, some 30, some 5, none] 129 rfl hsz hdef hfr (fun d => a.tmps[d]?.getD undef) (fun _ _ => rfl)
  obtain ⟨v21, h21⟩ : ∃ v, a.tmps[21]?.getD undef = v := ⟨_, rfl⟩
  obtain ⟨v22, h22⟩ : ∃ v, a.tmps[22]?.getD undef = v := ⟨_, rfl⟩
  obtain ⟨v23, h23⟩ : ∃ v, a.tmps[23]?.getD undef = v := ⟨_, rfl⟩
  obtain ⟨v24, h24⟩ : ∃ v, a.tmps[24]?.getD undef = v := ⟨_, rfl⟩
  obtain ⟨v25, h25⟩ : ∃ v, a.tmps[25]?.getD undef = v := ⟨_, rfl⟩
  obtain ⟨v26, h26⟩ : ∃ v, a.tmps[26]?.getD undef = v := ⟨_, rfl⟩
  obtain ⟨v27, h27⟩ : ∃ v, a.tmps[27]?.getD undef = v := ⟨_, rfl⟩
  obtain ⟨v28, h28⟩ : ∃ v, a.tmps[28]?.getD undef = v := ⟨_, rfl⟩
  obtain ⟨v29, h29⟩ : ∃ v, a.tmps[29]?.getD undef = v := ⟨_, rfl⟩
  simp only [putAll, h21, h22, h23, h24, h25, h26, h27, h28, h29, e30, e5, List.setIfInBounds_toArray, List.set_cons_zero, List.set_cons_succ] at he
  have HE4 : Hid (EyeW wz w4 E yv bs i4) := Lib.hid hE4
  clear h21 h22 h23 h24 h25 h26 h27 h28 h29 e30 e5 hdef hsz hv hfr hE4
  subst he
  have hGl : G < w4.heap.size := lt_of_block hcell
  obtain ⟨base, hbase⟩ : ∃ b, w4.heap.size = b := ⟨_, rfl⟩
  have hst0 : WSt wz w w4 E yv bs i4 B4 G base zeroM := ⟨HE4.out, HZZ.out, HP3.out.keep hk (by omega), HR3.out.keep hk (by omega), ⟨hcell, rfl⟩, HK3.out.trans hk (fun q hq e => by omega), hE, hB4.1, by omega, by omega, by omega, HYR.out⟩
  obtain ⟨w5, hw5⟩ : ∃ w5, w4.setRow G M1.cells.toArray = w5 := ⟨_, rfl⟩
  have HST5 : Hid (WSt wz w w5 E yv bs i4 B4 G base M1) := Lib.hid (by rw [← hw5]; exact hst0.put ((Keeps.refl _ _).setRow _ _ (.inr rfl)) (hst0.msg.putRow M1 HHD1.out))
  refine plan_do (by rfl) (wp_store_row 45 (.tmp 5) (.tmp 30) rfl G M1.cells.toArray (by rfl) (by rfl) 45 zeroM.cells.toArray hcell HIO.out HSE.out (M1.cells_all) ?_)
  rw [hw5]
  have HBASE : Hid (G < base) := Lib.hid (by omega)
  clear hst0 hcell hk HE4 HP3 HR3 HY3 HK3 hG hGl hw5 hbase HZZ HIO HSE HBU u1 u2 u3
  go_wp2_with fail
  ((with_reducible refine (numbersW_any G _).mono ?_); rintro e w6 ⟨R, rfl, hr6, hk6, hR6⟩)
  have HR6 := Lib.hid hr6
  have HST6 := Lib.hid (HST5.out.same' hk6)
  have HRB : Hid (base ≤ R) := Lib.hid (by have := HST5.out.ne; omega)
  clear hr6 hk6 hR6 HST5
  go_wp2
  go_loopw [33] (fun i wx => ∃ j : Nat, j ≤ 4 ∧ i = .int .i64 j ∧ Hid (WSt wz w wx E yv bs (n8To bs i4 j) B4 G base (Msg.rdN bs i4 M1 j)) ∧ Hid (Whole wx R 80 (ptrs4 G))) (fun i _ => 4 - (intOf i).toNat)
  case atStart => exact ⟨0, by omega, rfl, HST6, HR6⟩
  case round =>
    obtain ⟨j, hj, rfl, HST, HRR⟩ := hrel
    by_cases hlt : j < 4
    · have hc := HRR.out.cell (ptrs4_get G j hlt)
      have hj4 : (j : Int) < 4 := by omega
      have hj0 : (0 : Int) ≤ (j : Int) := by omega
      go_wp2_with (refine wpList_load_row (by rfl) 91 _ (by rfl) B4 (by rfl) 91 #[.pointer (some ⟨E, 0, none⟩)] (0, 0) _ HST.out.rdr Tryd.underlying91 rfl HIR.out ?_)
      ((with_reducible refine (wnum_w E bs (n8To bs i4 j) 8 8 _ HST.out.eye hl (by omega) (by omega) (by omega)).mono ?_); rintro e w7 ⟨rfl, hy7, hk7⟩)
      have HST7 : Hid (WSt wz w w7 E yv bs (n8To bs i4 (j + 1)) B4 G base (Msg.rdN bs i4 M1 j)) := Lib.hid (HST.out.call hk7 hy7)
      have HR7 := Lib.hid (HRR.out.keep hk7 (by have := HST.out.ne; have := HRB.out; omega))
      obtain ⟨ov, hov⟩ : ∃ v, (Msg.rdN bs i4 M1 j).nums[3 + j]? = some v := ⟨_, List.getElem?_eq_getElem (by simp [Msg.nums]; omega)⟩
      have f7 := HST7.out.msg.low (3 + j) ov (by omega) hov
      have g7 := HST7.out.msg.1.free (3 + j)
      have HX8 : Hid ((Msg.rdN bs i4 M1 (j + 1)) = (Msg.rdN bs i4 M1 j).setN j (numAt bs (n8To bs i4 j) 8)) := Lib.hid rfl
      obtain ⟨X, hX⟩ : ∃ X, numAt bs (n8To bs i4 j) 8 = X := ⟨_, rfl⟩
      rw [hX] at HX8 ⊢
      have HST8 : Hid (WSt wz w (w7.setCell ⟨G, 3 + j, none⟩ (.int .u64 (X : Int))) E yv bs (n8To bs i4 (j + 1)) B4 G base (Msg.rdN bs i4 M1 (j + 1))) := Lib.hid (by
        rw [HX8.out]
        exact HST7.out.put ((Keeps.refl _ _).setCell _ _ (.inr rfl)) (HST7.out.msg.set _ _ _ (Msg.cells_setN _ j X hlt) (by rw [Msg.setN_hd]; exact HST7.out.msg.2)))
      have HR8 : Hid (Whole (w7.setCell ⟨G, 3 + j, none⟩ (.int .u64 (X : Int))) R 80 (ptrs4 G)) := Lib.hid (HR7.out.keep (S := fun q => q = G) ((Keeps.refl _ _).setCell _ _ (.inr rfl)) (by have := HBASE.out; have := HRB.out; omega))
      clear hy7 hk7 hov hX HST HRR hc
      go_wp2
      go_roundw
      case rel => exact ⟨j + 1, by omega, by go_num, HST8, HR8⟩
      case measure => simp [intOf]; omega
    · obtain rfl : j = 4 := by omega
      clear hlt HRR HST6 HR6 HRB
      obtain ⟨n4, hn4⟩ : ∃ n, numAt bs i4 8 = n := ⟨_, rfl⟩
      obtain ⟨i5, hi5⟩ : ∃ i, numTo bs i4 8 = i := ⟨_, rfl⟩
      obtain ⟨n5, hn5⟩ : ∃ n, numAt bs i5 8 = n := ⟨_, rfl⟩
      obtain ⟨i6, hi6⟩ : ∃ i, numTo bs i5 8 = i := ⟨_, rfl⟩
      obtain ⟨n6, hn6⟩ : ∃ n, numAt bs i6 8 = n := ⟨_, rfl⟩
      obtain ⟨i7, hi7⟩ : ∃ i, numTo bs i6 8 = i := ⟨_, rfl⟩
      obtain ⟨n7, hn7⟩ : ∃ n, numAt bs i7 8 = n := ⟨_, rfl⟩
      obtain ⟨i8, hi8⟩ : ∃ i, numTo bs i7 8 = i := ⟨_, rfl⟩
      have hM2 : Msg.rdN bs i4 M1 4 = ({ zeroM with k := (n1 : Int), f := (n2 : Int), t := (n3 : Int), v := n4, n := n5, g := n6, c := n7 } : Msg) := by
        simp only [Msg.rdN, n8To, hi5, hi6, hi7, hn4, hn5, hn6, hn7, Msg.setN, ← hM1]
      have hI8 : n8To bs i4 4 = i8 := by simp only [n8To, hi5, hi6, hi7, hi8]
      rw [hM2, hI8] at HST
      clear hM2 hI8 hM1 HHD1
      obtain ⟨M2, hM2⟩ : ∃ M : Msg, ({ zeroM with k := (n1 : Int), f := (n2 : Int), t := (n3 : Int), v := n4, n := n5, g := n6, c := n7 } : Msg) = M := ⟨_, rfl⟩
      rw [hM2] at HST
      obtain ⟨hh, hhh⟩ : ∃ h, hashAt bs i8 = h := ⟨_, rfl⟩
      have HHL : Hid (hh.length = 32) := Lib.hid (by rw [← hhh]; exact hashAt_len bs i8)
      obtain ⟨i9, hi9⟩ : ∃ i, numTo bs i8 32 = i := ⟨_, rfl⟩
      go_wp2_with (refine wpList_load_row (by rfl) 91 _ (by rfl) B4 (by rfl) 91 #[.pointer (some ⟨E, 0, none⟩)] (0, 0) _ HST.out.rdr Tryd.underlying91 rfl HIR.out ?_)
      ((with_reducible refine (whash_w E bs i8 _ HST.out.eye hl).mono ?_); rintro e w9 ⟨rfl, hy9, hk9⟩)
      rw [hi9] at hy9
      have HST9 := Lib.hid (HST.out.call hk9 hy9)
      clear hy9 hk9 HST
      obtain ⟨M3, hM3⟩ : ∃ M : Msg, ({ M2 with hd := hh } : Msg) = M := ⟨_, rfl⟩
      have HHD3 : Hid (M3.hd.length = 32) := Lib.hid (by rw [← hM3]; exact HHL.out)
      obtain ⟨w10, hw10⟩ : ∃ w10, w9.setRow G M3.cells.toArray = w10 := ⟨_, rfl⟩
      have HW10 : Hid (w9.setRow G (M2.cells.toArray.toList.take 7 ++ (u8s hh).toArray.toList ++ M2.cells.toArray.toList.drop (7 + (u8s hh).toArray.toList.length)).toArray = w10) := Lib.hid (by
        rw [← hw10, ← hM3]
        rw [cells_hd M2 hh HST9.out.msg.2 HHL.out])
      have HST10 : Hid (WSt wz w w10 E yv bs i9 B4 G base M3) := Lib.hid (by rw [← hw10]; exact HST9.out.put ((Keeps.refl _ _).setRow _ _ (.inr rfl)) (HST9.out.msg.putRow M3 HHD3.out))
      have HFIT : Hid (7 + (u8s hh).toArray.size ≤ M2.cells.toArray.size) := Lib.hid (by rw [List.size_toArray, List.size_toArray, u8s_length, HHL.out, M2.cells_length HST9.out.msg.2]; omega)
      have HSZH := Lib.hid (Tryd.sizeHash hh HHL.out)
      rw [hhh]
      clear hw10
      go_wp2_with (refine wpList_store_in (by rfl) 32 (.tmp 44) (.tmp 43) (by rfl) G 7 45 (u8s hh).toArray M2.cells.toArray (by rfl) (by rfl) HST9.out.msg.1 HFIT.out HSZH.out (u8s_all _) ?_; rw [HW10.out])
      clear HW10 HFIT HSZH HST9
      obtain ⟨n9, hn9⟩ : ∃ n, numAt bs i9 1 = n := ⟨_, rfl⟩
      obtain ⟨i10, hi10⟩ : ∃ i, numTo bs i9 1 = i := ⟨_, rfl⟩
      obtain ⟨n10, hn10⟩ : ∃ n, numAt bs i10 8 = n := ⟨_, rfl⟩
      obtain ⟨i11, hi11⟩ : ∃ i, numTo bs i10 8 = i := ⟨_, rfl⟩
      have b9 : n9 < 256 := by rw [← hn9]; exact numAt_lt bs i9 1
      have u9 : IntKind.i64.wrap (n9 : Int) = n9 := IntWalk.i64_in (n9 : Int) (by omega)
      have hEl : E < w10.heap.size := HST10.out.eye.lt
      refine wp_region_tail [[], [0], [1], [], [3, 1], [0, 1, 2, 4], [5, 0, 1, 2, 4], [6, 2, 4, 0, 1, 2, 4], [0, 1, 2, 3, 4, 5, 6, 7], [8, 0, 1, 2, 3, 4, 5, 6, 7], [9, 4, 7, 0, 1, 2, 3, 4, 5, 6, 7]]
        [some 45, some 46, some 47, some 48, some 49, some 50, some 51, none, some 52, some 53, none]
        [.is (.agg #[.pointer (some ⟨E, 0, none⟩)]), .is (.int .u64 (n9 : Nat)), .is (.int .i64 (n9 : Nat)), .is (.agg #[.pointer (some ⟨E, 0, none⟩)]), .is (.int .u64 (n10 : Nat))]
        (fun k => k = E) [1, 4] (fun q w' => EyeW wz w' E yv bs ([i9, i10, i11].getD q 0)) 10 _ _ 129 5 11 (by kernel_rfl) (by rfl) (by rfl) (by omega) (by kernel_rfl) (by kernel_rfl) (by decide) (by decide) (fun k e => by omega) HST10.out.eye (fun _ _ _ h k => h.same' k) ?_ ?_
      · refine ⟨?_, ?_, ?_, ?_, ?_, trivial⟩
        · intro a w' K hk hdep hfr hK
          have f := hfr 4 (by decide)
          exact plan_do (by rfl) (wp_load_row 91 (.tmp 4) rfl B4 ((eval_tmp _ _).trans f) 91 #[.pointer (some ⟨E, 0, none⟩)] (0, 0) _ (HST10.out.rdr.keep hk (by have := HST10.out.ne; omega)) Tryd.underlying91 rfl HIR.out (hK _ _ (Keeps.refl _ _) rfl))
        · intro a w' K hk hdep hfr hE hK
          have e : a.tmps[45]?.getD undef = .agg #[.pointer (some ⟨E, 0, none⟩)] := hdep 0 (by decide) 45 rfl
          refine plan_do (by rfl) (plan_call 42 #[.agg #[.pointer (some ⟨E, 0, none⟩)], .int .i64 1] (by go_simp) ?_)
          exact (wnum_w E bs i9 1 1 w' hE hl (by omega) (by omega) (by omega)).mono fun e w'' ⟨he, hy, hk2⟩ => ⟨_, he, hK _ _ hk2 (by rw [hi10] at hy; exact hy) (by rw [hn9]; rfl)⟩
        · intro a w' K hk hdep hfr hK
          have e : a.tmps[46]?.getD undef = .int .u64 (n9 : Nat) := hdep 1 (by decide) 46 rfl
          exact plan_do (by rfl) (plan_yield (i := 2) (V := fun _ _ v => v = (.int .i64 (n9 : Nat) : Value)) _ (by go_simp) rfl hK)
        · intro a w' K hk hdep hfr hK
          have f := hfr 4 (by decide)
          exact plan_do (by rfl) (wp_load_row 91 (.tmp 4) rfl B4 ((eval_tmp _ _).trans f) 91 #[.pointer (some ⟨E, 0, none⟩)] (0, 0) _ (HST10.out.rdr.keep hk (by have := HST10.out.ne; omega)) Tryd.underlying91 rfl HIR.out (hK _ _ (Keeps.refl _ _) rfl))
        · intro a w' K hk hdep hfr hE hK
          have e : a.tmps[48]?.getD undef = .agg #[.pointer (some ⟨E, 0, none⟩)] := hdep 3 (by decide) 48 rfl
          refine plan_do (by rfl) (plan_call 42 #[.agg #[.pointer (some ⟨E, 0, none⟩)], .int .i64 8] (by go_simp) ?_)
          exact (wnum_w E bs i10 8 8 w' hE hl (by omega) (by omega) (by omega)).mono fun e w'' ⟨he, hy, hk2⟩ => ⟨_, he, hK _ _ hk2 (by rw [hi11] at hy; exact hy) (by rw [hn10]; rfl)⟩
      intro a w11 hk hdef hsz hv hfr hE11
      have e47 : a.tmps[47]?.getD undef = .int .i64 (n9 : Nat) := hv 2 47 (by omega) rfl
      have e49 : a.tmps[49]?.getD undef = .int .u64 (n10 : Nat) := hv 4 49 (by omega) rfl
      have he := act_eq a _ [some 45, some 46, some 47, some 48, some 49, some 50, some 51, none, some 52, some 53, none] 129 rfl hsz hdef hfr (fun d => a.tmps[d]?.getD undef) (fun _ _ => rfl)
      obtain ⟨v45, h45⟩ : ∃ v, a.tmps[45]?.getD undef = v := ⟨_, rfl⟩
      obtain ⟨v46, h46⟩ : ∃ v, a.tmps[46]?.getD undef = v := ⟨_, rfl⟩
      obtain ⟨v48, h48⟩ : ∃ v, a.tmps[48]?.getD undef = v := ⟨_, rfl⟩
      obtain ⟨v50, h50⟩ : ∃ v, a.tmps[50]?.getD undef = v := ⟨_, rfl⟩
      obtain ⟨v51, h51⟩ : ∃ v, a.tmps[51]?.getD undef = v := ⟨_, rfl⟩
      obtain ⟨v52, h52⟩ : ∃ v, a.tmps[52]?.getD undef = v := ⟨_, rfl⟩
      obtain ⟨v53, h53⟩ : ∃ v, a.tmps[53]?.getD undef = v := ⟨_, rfl⟩
      simp only [putAll, h45, h46, h48, h50, h51, h52, h53, e47, e49] at he
      have hE11' : EyeW wz w11 E yv bs i11 := hE11
      have HST11 := Lib.hid (HST10.out.call hk hE11')
      clear h45 h46 h48 h50 h51 h52 h53 e47 e49 hdef hsz hv hfr hE11 hE11' hk HST10 hEl
      subst he
      obtain ⟨A, hA⟩ : ∃ M : Msg, ({ zeroM with k := (n1 : Int), f := (n2 : Int), t := (n3 : Int), v := n4, n := n5, g := n6, c := n7, hd := hh, cl := (n9 : Int), nr := n10 } : Msg) = M := ⟨_, rfl⟩
      have HAE : Hid (({ M3 with cl := (n9 : Int), nr := n10 } : Msg) = A) := Lib.hid (by subst hM3; subst hM2; subst hA; rfl)
      have HAF : Hid (A.full opZ ansZ hsZ bsZ = A) := Lib.hid (by subst hA; rfl)
      have HAD : Hid (A.hd.length = 32) := Lib.hid (by subst hA; exact HHL.out)
      have HNM : Hid (n4 < 18446744073709551616 ∧ n5 < 18446744073709551616 ∧ n6 < 18446744073709551616 ∧ n7 < 18446744073709551616 ∧ n10 < 18446744073709551616) := Lib.hid (by
        have e8 : (256 : Nat) ^ 8 = 18446744073709551616 := by decide
        have q4 := numAt_lt bs i4 8
        have q5 := numAt_lt bs i5 8
        have q6 := numAt_lt bs i6 8
        have q7 := numAt_lt bs i7 8
        have q10 := numAt_lt bs i10 8
        rw [hn4, e8] at q4
        rw [hn5, e8] at q5
        rw [hn6, e8] at q6
        rw [hn7, e8] at q7
        rw [hn10, e8] at q10
        exact ⟨q4, q5, q6, q7, q10⟩)
      have HAI : Hid (∀ W, MsgIn W (A.full opZ ansZ hsZ bsZ)) := Lib.hid (by
        subst hA
        exact fun W => ⟨HHL.out, Bytes.nil _ _ _, Bytes.nil _ _ _, Strs.nil _ _ _, ⟨fun h e => (by cases (show h ∈ ([] : List (List UInt8)) from e)), .inl rfl⟩, .inr ⟨0, rfl, rfl⟩, Reads.nil _ _ _, Reads.nil _ _ _, fun r e => (by cases (show r ∈ ([] : List (Value × List UInt8)) from e)), ⟨Nat.zero_le _, Nat.zero_le _, Nat.zero_le _, Nat.zero_le _, Nat.zero_le _, Nat.zero_le _, Nat.zero_le _, Nat.zero_le _⟩, HNM.out⟩)
      have HAB : Hid (∀ lo hi, MsgBtw lo hi (A.full opZ ansZ hsZ bsZ)) := Lib.hid (fun lo hi => ⟨fun a e => (by cases e), fun a e => (by cases e), fun a e => (by cases e), fun a e => (by cases e), fun a e => (by cases e), fun r e => (by cases (show r ∈ ([] : List (Value × List UInt8)) from e))⟩)
      have HA := Lib.hid hA
      obtain ⟨w12, hw12⟩ : ∃ w12, w11.setCell ⟨G, 39, none⟩ (.int .i64 (n9 : Int)) = w12 := ⟨_, rfl⟩
      have c39 : w11.cell? ⟨G, 39, none⟩ = some (.int .i64 M3.cl) := HST11.out.msg.high 0 39 _ rfl rfl
      have g39 := HST11.out.msg.1.free 39
      have HST12 : Hid (WSt wz w w12 E yv bs i11 B4 G base ({ M3 with cl := (n9 : Int) } : Msg)) := Lib.hid (by
        rw [← hw12]; exact HST11.out.put ((Keeps.refl _ _).setCell _ _ (.inr rfl)) (HST11.out.msg.set 39 _ _ (cells_cl M3 HHD3.out _) HHD3.out))
      have c40 : w12.cell? ⟨G, 40, none⟩ = some (.int .u64 M3.nr) := HST12.out.msg.high 1 40 _ rfl rfl
      have g40 := HST12.out.msg.1.free 40
      obtain ⟨w13, hw13⟩ : ∃ w13, w12.setCell ⟨G, 40, none⟩ (.int .u64 (n10 : Int)) = w13 := ⟨_, rfl⟩
      have HST13 : Hid (WSt wz w w13 E yv bs i11 B4 G base (A.full opZ ansZ hsZ bsZ)) := Lib.hid (by
        rw [HAF.out, ← HAE.out, ← hw13]; exact HST12.out.put ((Keeps.refl _ _).setCell _ _ (.inr rfl)) (HST12.out.msg.set 40 _ _ (cells_nr ({ M3 with cl := (n9 : Int) } : Msg) HHD3.out _) HHD3.out))
      have cB : w13.cell? ⟨B4, 0, none⟩ = some (.pointer (some ⟨E, 0, none⟩)) := HST13.out.rdr.cell (i := 0) rfl
      clear hM2 hM3 hA HAE HHD3 HST11 HST12
      go_wp2_with fail
      clear c39 g39 c40 g40 cB hw12 hw13
      ((with_reducible refine (wtext_w E bs i11 _ HST13.out.eye hl).mono ?_); rintro e w14 ⟨xo, xc, er, rfl, hk14, hy14, ho14⟩)
      obtain ⟨tx, htx⟩ : ∃ t, txtAt bs i11 = t := ⟨_, rfl⟩
      obtain ⟨i12, hi12⟩ : ∃ i, txtTo bs i11 = i := ⟨_, rfl⟩
      rw [hi12] at hy14
      rw [htx] at ho14 ⊢
      have HST14 := Lib.hid (HST13.out.call hk14 hy14)
      have HO14 := Lib.hid ho14
      have HTL : Hid (tx.length ≤ 140737488351232) := Lib.hid (by have := txtAt_le bs i11; rw [htx] at this; omega)
      clear hk14 hy14 ho14 HST13
      go_upto_if 62 with fail
      go_cut [] from 16 to 84 (fun wx => ∃ o : OpP, Hid (WSt wz w wx E yv bs i12 B4 G base (A.full o ansZ hsZ bsZ)) ∧ Hid (MsgIn wx (A.full o ansZ hsZ bsZ) ∧ MsgBtw base wx.heap.size (A.full o ansZ hsZ bsZ)) ∧ Hid (OpGot tx o.k o.off o.n o.p o.t o.od))
      case first =>
        by_cases h0 : tx = []
        · have hl0 : ¬ (0 : Int) < (tx.length : Int) := by rw [h0]; simp
          have HR0 : Hid (OpGot tx opZ.k opZ.off opZ.n opZ.p opZ.t opZ.od) := Lib.hid (.inl ⟨h0, rfl, rfl, rfl, rfl, rfl, rfl⟩)
          clear h0
          go_wp2_with fail
          go_meet
          case rel => exact ⟨opZ, HST14, Lib.hid ⟨HAI.out _, HAB.out _ _⟩, HR0⟩
        · have hl0 : (0 : Int) < (tx.length : Int) := by have := List.length_pos_iff.2 h0; omega
          have H0 := Lib.hid h0
          clear h0
          go_wp2_with fail
          ((with_reducible refine (opRead_own xo xc tx _ (Bytes.of_own HO14.out) (fun x e _ => own_spot HO14.out x _ _ (by rw [e])) (own_capv HO14.out _ _ _ rfl).1 HTL.out (own_none HO14.out)).mono ?_); rintro e w15 ⟨hk15, k, off, n, p, t, ds, v, er', rfl, hr15, his15, hb15, hcp15⟩)
          obtain ⟨vo, vc, rfl, _⟩ := id hr15
          have HST15 := Lib.hid (HST14.out.same' hk15)
          have HR0 : Hid (OpGot tx k off n p t ds) := Lib.hid (.inr ⟨H0.out, er', his15⟩)
          obtain ⟨o', ho'⟩ : ∃ o : OpP, (⟨k, off, n, p, t, vo, ds, vc⟩ : OpP) = o := ⟨_, rfl⟩
          obtain ⟨w16, hw16⟩ : ∃ w16, w15.setRow G (A.full o' ansZ hsZ bsZ).cells.toArray = w16 := ⟨_, rfl⟩
          have HFD : Hid ((A.full o' ansZ hsZ bsZ).hd.length = 32) := HAD
          have HWR : Hid (w15.setRow G ((A.full opZ ansZ hsZ bsZ).cells.toArray.toList.take 41 ++ o'.cells.toArray.toList ++ (A.full opZ ansZ hsZ bsZ).cells.toArray.toList.drop (41 + o'.cells.toArray.toList.length)).toArray = w16) := Lib.hid (by
            rw [← hw16, full_op A opZ o' ansZ hsZ bsZ HAD.out])
          have hkr : Keeps (fun q => q = G) w15 w16 := by rw [← hw16]; exact (Keeps.refl _ _).setRow _ _ (.inr rfl)
          have HST16 : Hid (WSt wz w w16 E yv bs i12 B4 G base (A.full o' ansZ hsZ bsZ)) := Lib.hid (HST15.out.put hkr (by rw [← hw16]; exact HST15.out.msg.putRow (A.full o' ansZ hsZ bsZ) HFD.out))
          have HIN16 : Hid (MsgIn w16 (A.full o' ansZ hsZ bsZ) ∧ MsgBtw base w16.heap.size (A.full o' ansZ hsZ bsZ)) := Lib.hid (by
            have hi : MsgIn w15 (A.full o' ansZ hsZ bsZ) := (HAI.out w15).newOp o' (by rw [← ho']; exact hr15) (by rw [← ho']; exact hcp15 _ _ _ rfl)
            have hbt : MsgBtw base w15.heap.size (A.full o' ansZ hsZ bsZ) := (HAB.out base w15.heap.size).newOp o' (by
              rw [← ho']
              intro x e n0
              simp only at e n0
              have h1 := hb15 x _ _ (by rw [e])
              have h2 := HST14.out.ne
              have h3 := bytes_of_reads hr15
              rw [e] at h3
              exact ⟨by omega, bytes_blt h3 n0⟩)
            exact ⟨hi.keep hbt hkr (fun q e => by have := HBASE.out; omega), hbt.mono (Nat.le_refl _) hkr.size⟩)
          have HFIT : Hid (41 + o'.cells.toArray.size ≤ (A.full opZ ansZ hsZ bsZ).cells.toArray.size) := Lib.hid (by rw [List.size_toArray, List.size_toArray, Msg.cells_length (A.full opZ ansZ hsZ bsZ) HAD.out]; show 41 + 6 ≤ 53; omega)
          have HSZO : Hid ((Tryd.prog.info? 35).map (·.size) = some o'.cells.toArray.size) := Lib.hid Tryd.sizeOpW
          have HALL : Hid (o'.cells.toArray.all (·.oneCell') = true) := Lib.hid (op_all _ _ _ _ _ _ _ _)
          have HCE : Hid (.agg o'.cells.toArray = opVal k off n p t (.slice vo ds.length vc)) := Lib.hid (by rw [← ho']; rfl)
          have HR1 : Hid (OpGot tx o'.k o'.off o'.n o'.p o'.t o'.od) := Lib.hid (by rw [← ho']; exact HR0.out)
          clear hk15 hr15 his15 hb15 hcp15 hkr HR0 HST14 HO14 ho' hw16
          go_wp2_with (refine wpList_store_in (by rfl) 35 (.tmp 69) (.tmp 66) (by rfl) G 41 45 o'.cells.toArray (A.full opZ ansZ hsZ bsZ).cells.toArray (by rfl) (by rw [HCE.out]; rfl) HST15.out.msg.1 HFIT.out HSZO.out HALL.out ?_; rw [HWR.out])
          go_meet
          case rel => exact ⟨o', HST16, HIN16, HR1⟩
      case rest =>
        obtain ⟨o, HST, HIN, HGO⟩ := hcut
        clear HST14 HO14 HTL HAI HAB
        have cB : wc.cell? ⟨B4, 0, none⟩ = some (.pointer (some ⟨E, 0, none⟩)) := HST.out.rdr.cell (i := 0) rfl
        go_wp2_with fail
        clear cB
        ((with_reducible refine (wtext_w E bs i12 _ HST.out.eye hl).mono ?_); rintro e w17 ⟨yo, yc, er2, rfl, hk17, hy17, ho17⟩)
        obtain ⟨ty, hty⟩ : ∃ t, txtAt bs i12 = t := ⟨_, rfl⟩
        obtain ⟨i13, hi13⟩ : ∃ i, txtTo bs i12 = i := ⟨_, rfl⟩
        rw [hi13] at hy17
        rw [hty] at ho17 ⊢
        have HST17 := Lib.hid (HST.out.call hk17 hy17)
        have HO17 := Lib.hid ho17
        have HTL : Hid (ty.length ≤ 140737488351232) := Lib.hid (by have := txtAt_le bs i12; rw [hty] at this; omega)
        have HIN17 : Hid (MsgIn w17 (A.full o ansZ hsZ bsZ) ∧ MsgBtw base w17.heap.size (A.full o ansZ hsZ bsZ)) := Lib.hid
          ⟨HIN.out.1.keep HIN.out.2 hk17 (fun q e => by have := HST.out.ne; omega), HIN.out.2.mono (Nat.le_refl _) hk17.size⟩
        clear hk17 hy17 ho17 HST HIN
        go_upto_if 78 with fail
        go_cut [] from 16 to 84 (fun wx => ∃ r : AnsP, Hid (WSt wz w wx E yv bs i13 B4 G base (A.full o r hsZ bsZ)) ∧ Hid (MsgIn wx (A.full o r hsZ bsZ) ∧ MsgBtw base wx.heap.size (A.full o r hsZ bsZ)) ∧ Hid (AnsGot ty r.c r.n r.ad r.ns))
        case first =>
          by_cases h0 : ty = []
          · have hl0 : ¬ (0 : Int) < (ty.length : Int) := by rw [h0]; simp
            have HR0 : Hid (AnsGot ty ansZ.c ansZ.n ansZ.ad ansZ.ns) := Lib.hid (.inl ⟨h0, rfl, rfl, rfl, rfl⟩)
            clear h0
            go_wp2_with fail
            go_meet
            case rel => exact ⟨ansZ, HST17, HIN17, HR0⟩
          · have hl0 : (0 : Int) < (ty.length : Int) := by have := List.length_pos_iff.2 h0; omega
            have H0 := Lib.hid h0
            clear h0
            go_wp2_with fail
            ((with_reducible refine (ansRead_own yo yc ty _ (Bytes.of_own HO17.out) (fun x e _ => own_spot HO17.out x _ _ (by rw [e])) (own_capv HO17.out _ _ _ rfl).1 HTL.out (own_none HO17.out)).mono ?_); rintro e w18 ⟨hk18, cc, n, ds, ss, v, no, nc, er', rfl, hr18, hs18, his18, hb18, hb19, hcp18, hcp19, hcp20⟩)
            obtain ⟨vo, vc, rfl, _⟩ := id hr18
            have HST18 := Lib.hid (HST17.out.same' hk18)
            have HIN18 : Hid (MsgIn w18 (A.full o ansZ hsZ bsZ) ∧ MsgBtw base w18.heap.size (A.full o ansZ hsZ bsZ)) := Lib.hid ⟨HIN17.out.1.same hk18, HIN17.out.2.mono (Nat.le_refl _) hk18.size⟩
            have HR0 : Hid (AnsGot ty cc n ds ss) := Lib.hid (.inr ⟨H0.out, er', his18⟩)
            obtain ⟨r', hr'⟩ : ∃ r : AnsP, (⟨cc, n, vo, ds, vc, no, ss, nc⟩ : AnsP) = r := ⟨_, rfl⟩
            obtain ⟨w19, hw19⟩ : ∃ w19, w18.setRow G (A.full o r' hsZ bsZ).cells.toArray = w19 := ⟨_, rfl⟩
            have HWR : Hid (w18.setRow G ((A.full o ansZ hsZ bsZ).cells.toArray.toList.take 47 ++ r'.cells.toArray.toList ++ (A.full o ansZ hsZ bsZ).cells.toArray.toList.drop (47 + r'.cells.toArray.toList.length)).toArray = w19) := Lib.hid (by
              rw [← hw19, full_ans A o ansZ r' hsZ bsZ HAD.out])
            have hkr : Keeps (fun q => q = G) w18 w19 := by rw [← hw19]; exact (Keeps.refl _ _).setRow _ _ (.inr rfl)
            have HST19 : Hid (WSt wz w w19 E yv bs i13 B4 G base (A.full o r' hsZ bsZ)) := Lib.hid (HST18.out.put hkr (by rw [← hw19]; exact HST18.out.msg.putRow (A.full o r' hsZ bsZ) HAD.out))
            have HIN19 : Hid (MsgIn w19 (A.full o r' hsZ bsZ) ∧ MsgBtw base w19.heap.size (A.full o r' hsZ bsZ)) := Lib.hid (by
              have hi : MsgIn w18 (A.full o r' hsZ bsZ) := HIN18.out.1.newAns r' (by rw [← hr']; exact hr18) (by rw [← hr']; exact hs18) (by rw [← hr']; exact ⟨hcp18 _ _ _ rfl, hcp20, hcp19⟩)
              have hbt : MsgBtw base w18.heap.size (A.full o r' hsZ bsZ) := HIN18.out.2.newAns r' (by
                rw [← hr']
                intro x e n0
                simp only at e n0
                have h1 := hb18 x _ _ (by rw [e])
                have h2 := HST17.out.ne
                have h3 := bytes_of_reads hr18
                rw [e] at h3
                exact ⟨by omega, bytes_blt h3 n0⟩) (by
                rw [← hr']
                intro x e n0
                simp only at e n0
                have h1 := hb19 x _ _ (by rw [e])
                have h2 := HST17.out.ne
                rw [e] at hs18
                exact ⟨by omega, strs_blt hs18 n0⟩)
              exact ⟨hi.keep hbt hkr (fun q e => by have := HBASE.out; omega), hbt.mono (Nat.le_refl _) hkr.size⟩)
            have HFIT : Hid (47 + r'.cells.toArray.size ≤ (A.full o ansZ hsZ bsZ).cells.toArray.size) := Lib.hid (by rw [List.size_toArray, List.size_toArray, Msg.cells_length (A.full o ansZ hsZ bsZ) HAD.out]; show 47 + 4 ≤ 53; omega)
            have HSZO : Hid ((Tryd.prog.info? 41).map (·.size) = some r'.cells.toArray.size) := Lib.hid Tryd.sizeAnsW
            have HALL : Hid (r'.cells.toArray.all (·.oneCell') = true) := Lib.hid (ans_all _ _ _ _ _ _ _ _)
            have HCE : Hid (.agg r'.cells.toArray = ansVal cc n (.slice vo ds.length vc) (.slice no ss.length nc)) := Lib.hid (by rw [← hr']; rfl)
            have HR1 : Hid (AnsGot ty r'.c r'.n r'.ad r'.ns) := Lib.hid (by rw [← hr']; exact HR0.out)
            clear hk18 hr18 hs18 his18 hb18 hb19 hcp18 hcp19 hcp20 hkr HR0 HST17 HO17 HIN17 HIN18 hr' hw19
            go_wp2_with (refine wpList_store_in (by rfl) 41 (.tmp 84) (.tmp 82) (by rfl) G 47 45 r'.cells.toArray (A.full o ansZ hsZ bsZ).cells.toArray (by rfl) (by rw [HCE.out]; rfl) HST18.out.msg.1 HFIT.out HSZO.out HALL.out ?_; rw [HWR.out])
            go_meet
            case rel => exact ⟨r', HST19, HIN19, HR1⟩
        case rest =>
          obtain ⟨r, HST, HIN, HGA⟩ := hcut
          clear HST17 HO17 HTL HIN17
          have HI := Lib.hid (And.intro hi1 (And.intro hi2 (And.intro hi3 (And.intro hi4 (And.intro hi5 (And.intro hi6 (And.intro hi7 (And.intro hi8 (And.intro hi9 (And.intro hi10 (And.intro hi11 (And.intro hi12 hi13))))))))))))
          have HNN := Lib.hid (And.intro hn1 (And.intro hn2 (And.intro hn3 (And.intro hn4 (And.intro hn5 (And.intro hn6 (And.intro hn7 (And.intro hhh (And.intro hn9 (And.intro hn10 (And.intro htx hty)))))))))))
          clear hi1 hi2 hi3 hi4 hi5 hi6 hi7 hi8 hi9 hi10 hi11 hi12 hi13 hn1 hn2 hn3 hn4 hn5 hn6 hn7 hhh hn9 hn10 htx hty
          go_wp2_with (refine wpList_load_row (by rfl) 91 _ (by rfl) B4 (by rfl) 91 #[.pointer (some ⟨E, 0, none⟩)] (0, 0) _ HST.out.rdr Tryd.underlying91 rfl HIR.out ?_)
          ((with_reducible refine (wnum_w E bs i13 1 1 _ HST.out.eye hl (by omega) (by omega) (by omega)).mono ?_); rintro e w20 ⟨rfl, hy20, hk20⟩)
          obtain ⟨kk, hkk⟩ : ∃ n, numAt bs i13 1 = n := ⟨_, rfl⟩
          obtain ⟨i14, hi14⟩ : ∃ i, numTo bs i13 1 = i := ⟨_, rfl⟩
          have hkb : kk < 256 := by rw [← hkk]; exact numAt_lt bs i13 1
          rw [hi14] at hy20
          rw [hkk]
          have HST20 := Lib.hid (HST.out.call hk20 hy20)
          obtain ⟨lo2, hlo2⟩ : ∃ b, w20.heap.size = b := ⟨_, rfl⟩
          have HIN20 : Hid (MsgIn w20 (A.full o r hsZ bsZ)) := Lib.hid (HIN.out.1.keep HIN.out.2 hk20 (fun q e => by have := HST.out.ne; omega))
          have HBT : Hid (MsgBtw base lo2 (A.full o r hsZ bsZ)) := Lib.hid (HIN.out.2.mono (Nat.le_refl _) (by have := hk20.size; omega))
          have HLO : Hid (base ≤ lo2 ∧ E < base) := Lib.hid (by have := HST.out.ne; have := hk20.size; omega)
          have HKK := Lib.hid hkk
          have HI14 := Lib.hid hi14
          have hlo20 : lo2 ≤ w20.heap.size := by omega
          clear hy20 hk20 HST HIN hlo2 hkk hi14
          go_wp2_with fail
          obtain ⟨ie, hie, hz0, hz1, hz2⟩ := info_partsW Tryd.infoHashW
          have HZ := Lib.hid hz0
          clear hz0
          go_loopw [87] (fun i wx => ∃ (j : Nat) (h : HsP), j ≤ kk ∧ i = .int .u64 j ∧ Hid (h.hs = hsAt bs i14 j) ∧ Hid (WSt wz w wx E yv bs (hsTo bs i14 j) B4 G base (A.full o r h bsZ)) ∧ Hid (MsgIn wx (A.full o r hsZ bsZ)) ∧ Hid (wx.ownsRow lo2 32 32 (.slice h.ho h.hs.length h.hc) h.hs.length (hrow h.hs)) ∧ lo2 ≤ wx.heap.size) (fun i _ => kk - (intOf i).toNat)
          case atStart => exact ⟨0, hsZ, by omega, rfl, Lib.hid rfl, HST20, HIN20, Lib.hid (World.ownsRow_nil _ _ _ _), hlo20⟩
          case round =>
            obtain ⟨j, h, hj, rfl, HHS, HST, HIN, HOW, hsz⟩ := hrel
            by_cases hlt : j < kk
            · have hlt2 : (j : Int) < (kk : Int) := by omega
              have hu : IntKind.u64.wrap ((j : Int) + 1) = ((j + 1 : Nat) : Int) := by
                have := IntWalk.u64_in ((j : Int) + 1) (by omega)
                rw [this]; push_cast; rfl
              have HHL' : Hid (h.hs.length = j) := Lib.hid (by rw [HHS.out, hsAt_length])
              go_wp2_with fail
              obtain ⟨ij, hij⟩ : ∃ ij, hsTo bs i14 j = ij := ⟨_, rfl⟩
              have HIJ := Lib.hid hij
              rw [hij] at HST
              obtain ⟨hx, hhx⟩ : ∃ h, hashAt bs ij = h := ⟨_, rfl⟩
              have HXL : Hid (hx.length = 32) := Lib.hid (by rw [← hhx]; exact hashAt_len bs ij)
              have HCELL := Lib.hid (show ∀ w', Keeps (fun k => k = E) wr w' → w'.cell? ⟨G, 51, none⟩ = some (.slice h.ho h.hs.length h.hc) from fun w' k => (HST.out.msg.keep k (by have := HST.out.ne; omega)).high 12 51 _ rfl rfl)
              have hEl : E < wr.heap.size := HST.out.eye.lt
              refine wp_region_tail [[], [0], [], [2], [3], [1, 4, 3], [0, 1, 2, 3, 4, 5], [6, 5, 5, 0, 1, 2, 3, 4, 5]]
                [some 89, some 90, some 91, some 92, some 93, some 94, some 95, none]
                [.is (.pointer (some ⟨G, 51, none⟩)), .is (.slice h.ho h.hs.length h.hc), .is (.agg #[.pointer (some ⟨E, 0, none⟩)]), .is (.agg (u8s hx).toArray), .litN 32 (u8s hx).toArray 1]
                (fun k => k = E) [3] (fun q w' => EyeW wz w' E yv bs ([ij, numTo bs ij 32].getD q 0)) 19 _ _ 129 5 8 (by kernel_rfl) (by rfl) (by rfl) (by omega) (by kernel_rfl) (by kernel_rfl) (by decide) (by decide) (fun k e => by omega) HST.out.eye (fun _ _ _ h k => h.same' k) ?_ ?_
              · refine ⟨?_, ?_, ?_, ?_, ?_, trivial⟩
                · intro a w' K hk hdep hfr hK
                  have f := hfr 5 (by decide)
                  exact plan_do (by rfl) (plan_yield (i := 0) (V := fun _ _ v => v = (.pointer (some ⟨G, 51, none⟩) : Value)) (.pointer (some ⟨G, 51, none⟩)) (by go_simp) rfl hK)
                · intro a w' K hk hdep hfr hK
                  have e89 : a.tmps[89]?.getD undef = .pointer (some ⟨G, 51, none⟩) := hdep 0 (by decide) 89 rfl
                  have c51 := HCELL.out w' hk
                  exact plan_do (by rfl) (plan_yield (i := 1) (V := fun _ _ v => v = (.slice h.ho h.hs.length h.hc : Value)) (.slice h.ho h.hs.length h.hc) (by go_simp) rfl hK)
                · intro a w' K hk hdep hfr hK
                  have f := hfr 4 (by decide)
                  exact plan_do (by rfl) (wp_load_row 91 (.tmp 4) rfl B4 ((eval_tmp _ _).trans f) 91 #[.pointer (some ⟨E, 0, none⟩)] (0, 0) _ (HST.out.rdr.keep hk (by have := HST.out.ne; omega)) Tryd.underlying91 rfl HIR.out (hK _ _ (Keeps.refl _ _) rfl))
                · intro a w' K hk hdep hfr hE hK
                  have e : a.tmps[91]?.getD undef = .agg #[.pointer (some ⟨E, 0, none⟩)] := hdep 2 (by decide) 91 rfl
                  refine plan_do (by rfl) (plan_call 43 #[.agg #[.pointer (some ⟨E, 0, none⟩)]] (by go_simp) ?_)
                  exact (whash_w E bs ij w' hE hl).mono fun e w'' ⟨he, hy, hk2⟩ => ⟨_, he, hK _ _ hk2 hy (by rw [hhx]; rfl)⟩
                · intro a w' K hk hdep hfr hK
                  have e92 : a.tmps[92]?.getD undef = .agg (u8s hx).toArray := hdep 3 (by decide) 92 rfl
                  have hcl : (u8s hx).toArray.size = 32 := by rw [List.size_toArray, u8s_length, HXL.out]
                  exact plan_do (by rfl) (wp_buildOne 42 32 (.tmp 92) rfl (u8s hx).toArray ie _ ((eval_tmp _ _).trans e92) Tryd.underlying42 hie HZ.out (by rw [hz1, hcl]) (by rw [hcl]; omega) (by rw [hcl]; omega) (hK _ _ ((Keeps.refl _ _).alloc _) ⟨w'.heap.size, rfl, hk.size, heap_alloc_new w' _⟩))
              intro a w6 hk hdef hsz6 hv hfr hE6
              have e90 : a.tmps[90]?.getD undef = .slice h.ho h.hs.length h.hc := hv 1 90 (by omega) rfl
              obtain ⟨L, e93, hL, hlit⟩ : ∃ L, a.tmps[93]?.getD undef = .slice (some ⟨L, 0, none⟩) 1 1 ∧ wr.heap.size ≤ L ∧ w6.heap[L]? = some (.cells (u8s hx).toArray 32 (0, 0)) := hv 4 93 (by omega) rfl
              have he := act_eq a _ [some 89, some 90, some 91, some 92, some 93, some 94, some 95, none] 129 rfl hsz6 hdef hfr (fun d => a.tmps[d]?.getD undef) (fun _ _ => rfl)
              obtain ⟨v89, h89⟩ : ∃ v, a.tmps[89]?.getD undef = v := ⟨_, rfl⟩
              obtain ⟨v91, h91⟩ : ∃ v, a.tmps[91]?.getD undef = v := ⟨_, rfl⟩
              obtain ⟨v92, h92⟩ : ∃ v, a.tmps[92]?.getD undef = v := ⟨_, rfl⟩
              obtain ⟨v94, h94⟩ : ∃ v, a.tmps[94]?.getD undef = v := ⟨_, rfl⟩
              obtain ⟨v95, h95⟩ : ∃ v, a.tmps[95]?.getD undef = v := ⟨_, rfl⟩
              simp only [putAll, h89, h91, h92, h94, h95, e90, e93, List.setIfInBounds_toArray, List.set_cons_zero, List.set_cons_succ] at he
              have hE6' : EyeW wz w6 E yv bs (numTo bs ij 32) := hE6
              have HST6 := Lib.hid (HST.out.call hk hE6')
              have HIN6 : Hid (MsgIn w6 (A.full o r hsZ bsZ)) := Lib.hid (HIN.out.keep HBT.out hk (fun q e => by have := HLO.out; omega))
              have hown6 : w6.ownsRow lo2 32 32 (.slice h.ho h.hs.length h.hc) h.hs.length (hrow h.hs) := own_keeps hk HOW.out (fun q e e2 => by have := (HOW.out.lt q e).1; have := HLO.out; omega)
              have hsz6' : wr.heap.size ≤ w6.heap.size := hk.size
              obtain ⟨g, cp, w7, hrun, ho7, hg7, hat7, hlt7⟩ := run_append_lies (P := Tryd.prog) w6 42 42 lo2 32 ie _ 32 32 Tryd.underlying42 hie HZ.out hz1 hz2 (by simp [Value.cells, u8s_length]) (by omega) (.slice h.ho h.hs.length h.hc) h.hs.length (hrow h.hs) hown6 ⟨L, 0, none⟩ 1 1 (u8s hx) (by rw [u8s_length, HXL.out]) (fun q u hu => by
                rw [Addr.add_mid, cell_of_row _ _ _ _ _ _ hlit]; simpa using hu) (u8s_cell hx) (by omega) (by have := HHL'.out; unfold maxLen; omega) (by have := HHL'.out; omega) (by omega) w6.heap.size rfl
              have k67 : Keeps (fun q => lo2 ≤ q) w6 w7 := (Keeps.refl _ _).grown hg7 (fun q e _ => (hown6.lt q e).1)
              have HRUN := Lib.hid hrun
              obtain ⟨h', hh'⟩ : ∃ hq : HsP, (⟨some ⟨g, 0, none⟩, h.hs ++ [hx], cp⟩ : HsP) = hq := ⟨_, rfl⟩
              have HVL : Hid ((.slice h'.ho h'.hs.length h'.hc : Value) = .slice (some ⟨g, 0, none⟩) (h.hs.length + 1) cp) := Lib.hid (by rw [← hh']; simp)
              have HST7 := Lib.hid (HST6.out.far k67 (fun q e => by have := HLO.out; omega))
              have c51 : w7.cell? ⟨G, 51, none⟩ = some (.slice h.ho h.hs.length h.hc) := HST7.out.msg.high 12 51 _ rfl rfl
              have g51 := HST7.out.msg.1.free 51
              obtain ⟨w8, hw8⟩ : ∃ w8, w7.setCell ⟨G, 51, none⟩ (.slice (some ⟨g, 0, none⟩) (h.hs.length + 1) cp) = w8 := ⟨_, rfl⟩
              have hk8 : Keeps (fun q => q = G) w7 w8 := by rw [← hw8]; exact (Keeps.refl _ _).setCell _ _ (.inr rfl)
              have HST8 : Hid (WSt wz w w8 E yv bs (hsTo bs i14 (j + 1)) B4 G base (A.full o r h' bsZ)) := Lib.hid (by
                rw [hsTo_succ, HIJ.out]
                exact HST7.out.put hk8 (by rw [← hw8]; exact HST7.out.msg.set 51 _ _ (by rw [full_hs A o r h h' bsZ HAD.out, HVL.out]) HAD.out))
              have HIN8 : Hid (MsgIn w8 (A.full o r hsZ bsZ)) := Lib.hid ((HIN6.out.keep HBT.out k67 (fun q e => .inr e)).keep HBT.out hk8 (fun q e => by have := HBASE.out; omega))
              have HOW8 : Hid (w8.ownsRow lo2 32 32 (.slice h'.ho h'.hs.length h'.hc) h'.hs.length (hrow h'.hs)) := Lib.hid (by
                rw [HVL.out]
                have e1 : h'.hs.length = h.hs.length + 1 := by rw [← hh']; simp
                have e2 : hrow h'.hs = hrow h.hs ++ u8s hx := by rw [← hh']; simp [hrow]
                rw [e1, e2]
                exact own_keeps hk8 ho7 (fun q e e2 => by have := (ho7.lt q e).1; have := HLO.out; have := HBASE.out; omega))
              have HHS8 : Hid (h'.hs = hsAt bs i14 (j + 1)) := Lib.hid (by rw [← hh', hsAt_succ, HIJ.out, hhx, ← HHS.out])
              have HSZ8 : Hid (lo2 ≤ w8.heap.size) := Lib.hid (by have := k67.size; have := hk8.size; omega)
              clear h89 h91 h92 h94 h95 e90 e93 hdef hsz6 hv hfr hE6 hE6' hk hlit HST HIN HOW HCELL hown6 hrun ho7 hg7 hat7 hlt7 k67 hh' hk8 HST6 HIN6 HST7 hij hhx
              subst he
              refine wpList_append_run (by rfl) (.tmp 90) (.tmp 93) 42 (by rfl) (.slice h.ho h.hs.length h.hc) (.slice (some ⟨L, 0, none⟩) 1 1) _ w7 (by rfl) (by rfl) HRUN.out ?_
              go_wp2
              go_roundw
              case rel => exact ⟨j + 1, h', by omega, by go_num, HHS8, HST8, HIN8, HOW8, HSZ8.out⟩
              case measure => simp [intOf]; omega
            · obtain rfl : j = kk := by omega
              have hlt2 : ¬ (j : Int) < (j : Int) := by omega
              obtain ⟨i15, hi15⟩ : ∃ i, hsTo bs i14 j = i := ⟨_, rfl⟩
              rw [hi15] at HST
              have HI15 := Lib.hid hi15
              have hcap := own_capv HOW.out _ _ _ rfl
              have HINH : Hid (MsgIn wr (A.full o r h bsZ)) := Lib.hid (HIN.out.newHs h (Hss.of_own HOW.out (fun x hx => by rw [HHS.out] at hx; exact hsAt_all _ _ _ x hx)) ⟨hcap.1, hcap.2⟩)
              have HBTH : Hid (MsgBtw base wr.heap.size (A.full o r h bsZ)) := Lib.hid ((HBT.out.mono (Nat.le_refl _) hsz).newHs h (fun x e n0 => by
                have h1 := HOW.out.lt x.block (by rw [e]; rfl)
                have := HLO.out
                omega))
              clear hi15 hcap HIN HOW HIN20 HST20 HBT
              obtain ⟨wq, rfl⟩ : ∃ wq : World, wq = wr := ⟨_, rfl⟩
              go_wp2_with (refine wpList_load_row (by rfl) 91 _ (by rfl) B4 (by rfl) 91 #[.pointer (some ⟨E, 0, none⟩)] (0, 0) _ HST.out.rdr Tryd.underlying91 rfl HIR.out ?_)
              ((with_reducible refine (wnum_w E bs i15 1 1 _ HST.out.eye hl (by omega) (by omega) (by omega)).mono ?_); rintro e w21 ⟨rfl, hy21, hk21⟩)
              obtain ⟨kb, hkb'⟩ : ∃ n, numAt bs i15 1 = n := ⟨_, rfl⟩
              obtain ⟨i16, hi16⟩ : ∃ i, numTo bs i15 1 = i := ⟨_, rfl⟩
              have hkb2 : kb < 256 := by rw [← hkb']; exact numAt_lt bs i15 1
              rw [hi16] at hy21
              rw [hkb']
              have HST21 := Lib.hid (HST.out.call hk21 hy21)
              obtain ⟨lo3, hlo3⟩ : ∃ b, w21.heap.size = b := ⟨_, rfl⟩
              have HIN21 : Hid (MsgIn w21 (A.full o r h bsZ)) := Lib.hid (HINH.out.keep HBTH.out hk21 (fun q e => by have := HLO.out; omega))
              have HBT : Hid (MsgBtw base lo3 (A.full o r h bsZ)) := Lib.hid (HBTH.out.mono (Nat.le_refl _) (by have := hk21.size; omega))
              have HLO3 : Hid (base ≤ lo3 ∧ E < base) := Lib.hid (by have := HST21.out.ne; have := HLO.out; omega)
              have HKB := Lib.hid hkb'
              have HI16 := Lib.hid hi16
              have hlo30 : lo3 ≤ w21.heap.size := by omega
              clear hy21 hk21 HST HINH HBTH hlo3 hkb' hi16 HLO
              go_wp2_with fail
              obtain ⟨ib, hib, hb0, hb1, hb2⟩ := info_partsW Tryd.infoB8W
              have HZB := Lib.hid hb0
              clear hb0
              go_loopw [99] (fun i wx => ∃ (j : Nat) (b : BsP), j ≤ kb ∧ i = .int .u64 j ∧ Hid (b.bs.map (·.2) = blAt bs i16 j) ∧ Hid (WSt wz w wx E yv bs (namesTo bs i16 j) B4 G base (A.full o r h b)) ∧ Hid (MsgIn wx (A.full o r h bsZ)) ∧ Hid (wx.ownsRow lo3 33 1 (.slice b.bo b.bs.length b.bc) b.bs.length (b.bs.map (·.1))) ∧ Hid (∀ x ∈ b.bs, TxtB lo3 wx x) ∧ lo3 ≤ wx.heap.size) (fun i _ => kb - (intOf i).toNat)
              case atStart => exact ⟨0, bsZ, by omega, rfl, Lib.hid rfl, HST21, HIN21, Lib.hid (World.ownsRow_nil _ _ _ _), Lib.hid (fun x e => by cases (show x ∈ ([] : List (Value × List UInt8)) from e)), hlo30⟩
              case round =>
                obtain ⟨j, b, hj, rfl, HBS, HST, HIN, HOW, HTX, hsz⟩ := hrel
                by_cases hlt : j < kb
                · have hlt2 : (j : Int) < (kb : Int) := by omega
                  have hu : IntKind.u64.wrap ((j : Int) + 1) = ((j + 1 : Nat) : Int) := by
                    have := IntWalk.u64_in ((j : Int) + 1) (by omega)
                    rw [this]; push_cast; rfl
                  have HBL' : Hid (b.bs.length = j) := Lib.hid (by
                    have := congrArg List.length HBS.out
                    rwa [List.length_map, blAt_length] at this)
                  have cB : wr.cell? ⟨B4, 0, none⟩ = some (.pointer (some ⟨E, 0, none⟩)) := HST.out.rdr.cell (i := 0) rfl
                  obtain ⟨ij, hij⟩ : ∃ ij, namesTo bs i16 j = ij := ⟨_, rfl⟩
                  have HIJ := Lib.hid hij
                  rw [hij] at HST
                  obtain ⟨tx2, htx2⟩ : ∃ h, txtAt bs ij = h := ⟨_, rfl⟩
                  go_wp2_with fail
                  clear cB
                  ((with_reducible refine (wtext_w E bs ij _ HST.out.eye hl).mono ?_); rintro e w22 ⟨so, sc, er3, rfl, hk22, hy22, ho22⟩)
                  rw [htx2] at ho22 ⊢
                  have HST22 := Lib.hid (HST.out.call hk22 hy22)
                  have HIN22 : Hid (MsgIn w22 (A.full o r h bsZ)) := Lib.hid (HIN.out.keep HBT.out hk22 (fun q e => by have := HLO3.out; omega))
                  have hown22 : w22.ownsRow lo3 33 1 (.slice b.bo b.bs.length b.bc) b.bs.length (b.bs.map (·.1)) := own_keeps hk22 HOW.out (fun q e e2 => by have := (HOW.out.lt q e).1; have := HLO3.out; omega)
                  have htx22 : ∀ x ∈ b.bs, TxtB lo3 w22 x := fun x hx => (HTX.out x hx).keep hk22 (fun q e => by have := HLO3.out; omega)
                  have hnew : TxtB lo3 w22 (.slice so tx2.length sc, tx2) := ⟨Reads.of_own ho22 rfl, fun a n c e => by
                    have h1 := ho22.lt a.block (congrArg Value.ownBlock e)
                    exact ⟨by omega, h1.2, own_typ ho22 (congrArg Value.ownBlock e)⟩⟩
                  obtain ⟨wa, hwa⟩ : ∃ wa, w22.alloc (.cells #[.slice so tx2.length sc] 33) = wa := ⟨_, rfl⟩
                  have hka : Same w22 wa := by rw [← hwa]; exact (Keeps.refl _ _).alloc _
                  have hlit : wa.heap[w22.heap.size]? = some (.cells #[.slice so tx2.length sc] 33 (0, 0)) := by rw [← hwa]; exact heap_alloc_new w22 _
                  have hsa : wa.heap.size = w22.heap.size + 1 := by rw [← hwa]; simp
                  have HSTA := Lib.hid (HST22.out.same' hka)
                  have HINA : Hid (MsgIn wa (A.full o r h bsZ)) := Lib.hid (HIN22.out.same hka)
                  have howna : wa.ownsRow lo3 33 1 (.slice b.bo b.bs.length b.bc) b.bs.length (b.bs.map (·.1)) := own_keeps hka hown22 (fun q e e2 => e2)
                  have htxa : ∀ x ∈ b.bs ++ [(.slice so tx2.length sc, tx2)], TxtB lo3 wa x := fun x hx => by
                    rcases List.mem_append.1 hx with hx | hx
                    · exact (htx22 x hx).keep hka (fun q e => e.elim)
                    · rw [List.mem_singleton] at hx; subst hx; exact hnew.keep hka (fun q e => e.elim)
                  have hsz22 := hk22.size
                  obtain ⟨g, cp, w23, hrun, ho23, hg23, hat23, hlt23⟩ := run_append_lies (P := Tryd.prog) wa 43 43 lo3 33 ib _ 1 24 Tryd.underlying43 hib HZB.out hb1 hb2 rfl (by omega) (.slice b.bo b.bs.length b.bc) b.bs.length (b.bs.map (·.1)) howna ⟨w22.heap.size, 0, none⟩ 1 1 [.slice so tx2.length sc] rfl (fun q u hu => by
                    rw [Addr.add_mid, cell_of_row _ _ _ _ _ _ hlit]; simpa using hu) (by simp [Value.oneCell']) (by omega) (by have := HBL'.out; unfold maxLen; omega) (by have := HBL'.out; omega) (by omega) wa.heap.size rfl
                  have k23 : Keeps (fun q => lo3 ≤ q ∧ (.slice b.bo b.bs.length b.bc : Value).ownBlock = some q) wa w23 := (Keeps.refl _ _).grown hg23 (fun q e _ => ⟨(howna.lt q e).1, e⟩)
                  have HRUN := Lib.hid hrun
                  obtain ⟨b', hb'⟩ : ∃ bq : BsP, (⟨some ⟨g, 0, none⟩, b.bs ++ [(.slice so tx2.length sc, tx2)], cp⟩ : BsP) = bq := ⟨_, rfl⟩
                  have HVL : Hid ((.slice b'.bo b'.bs.length b'.bc : Value) = .slice (some ⟨g, 0, none⟩) (b.bs.length + 1) cp) := Lib.hid (by rw [← hb']; simp)
                  have c52 : w22.cell? ⟨G, 52, none⟩ = some (.slice b.bo b.bs.length b.bc) := HST22.out.msg.high 13 52 _ rfl rfl
                  have HST23 := Lib.hid (HSTA.out.far k23 (fun q e => by have := HLO3.out; omega))
                  have c53 : w23.cell? ⟨G, 52, none⟩ = some (.slice b.bo b.bs.length b.bc) := HST23.out.msg.high 13 52 _ rfl rfl
                  have g53 := HST23.out.msg.1.free 52
                  obtain ⟨w24, hw24⟩ : ∃ w24, w23.setCell ⟨G, 52, none⟩ (.slice (some ⟨g, 0, none⟩) (b.bs.length + 1) cp) = w24 := ⟨_, rfl⟩
                  have hk24 : Keeps (fun q => q = G) w23 w24 := by rw [← hw24]; exact (Keeps.refl _ _).setCell _ _ (.inr rfl)
                  have HST24 : Hid (WSt wz w w24 E yv bs (namesTo bs i16 (j + 1)) B4 G base (A.full o r h b')) := Lib.hid (by
                    rw [namesTo_succ, HIJ.out]
                    exact HST23.out.put hk24 (by rw [← hw24]; exact HST23.out.msg.set 52 _ _ (by rw [full_bs A o r h b b' HAD.out, HVL.out]) HAD.out))
                  have HIN24 : Hid (MsgIn w24 (A.full o r h bsZ)) := Lib.hid ((HINA.out.keep HBT.out k23 (fun q e => .inr e.1)).keep HBT.out hk24 (fun q e => by have := HBASE.out; omega))
                  have HOW24 : Hid (w24.ownsRow lo3 33 1 (.slice b'.bo b'.bs.length b'.bc) b'.bs.length (b'.bs.map (·.1))) := Lib.hid (by
                    rw [HVL.out]
                    have e1 : b'.bs.length = b.bs.length + 1 := by rw [← hb']; simp
                    have e2 : b'.bs.map (·.1) = b.bs.map (·.1) ++ [.slice so tx2.length sc] := by rw [← hb']; simp
                    rw [e1, e2]
                    exact own_keeps hk24 ho23 (fun q e e2 => by have := (ho23.lt q e).1; have := HLO3.out; have := HBASE.out; omega))
                  have HTX24 : Hid (∀ x ∈ b'.bs, TxtB lo3 w24 x) := Lib.hid (fun x hx => by
                    rw [← hb'] at hx
                    refine ((htxa x hx).keep k23 (fun q e => ?_)).keep hk24 (fun q e => by have := HBASE.out; have := HLO3.out; omega)
                    obtain ⟨cur, hcur⟩ := own_typ howna e.2
                    exact .inr (.inr ⟨cur, _, hcur, by decide⟩))
                  have HBS24 : Hid (b'.bs.map (·.2) = blAt bs i16 (j + 1)) := Lib.hid (by rw [← hb', blAt_succ, HIJ.out, htx2, ← HBS.out]; simp)
                  have HSZ24 : Hid (lo3 ≤ w24.heap.size) := Lib.hid (by have := k23.size; have := hk24.size; omega)
                  clear hk22 hy22 ho22 HST HIN HOW HTX hown22 htx22 hnew hka hlit hsa howna htxa hrun ho23 hg23 hat23 hlt23 k23 hb' hk24 HSTA HINA HIN22 HST22 HST23 hij htx2
                  go_wp2_with ((with_reducible refine wpList_append_run ?_ (.tmp 108) (.tmp 110) 43 ?_ (.slice b.bo b.bs.length b.bc) (.slice (some ⟨w22.heap.size, 0, none⟩) 1 1) _ w23 ?_ ?_ HRUN.out ?_); rfl; rfl; rfl; rfl)
                  go_roundw
                  case rel => exact ⟨j + 1, b', by omega, by go_num, HBS24, HST24, HIN24, HOW24, HTX24, HSZ24.out⟩
                  case measure => simp [intOf]; omega
                · obtain rfl : j = kb := by omega
                  have hlt2 : ¬ (j : Int) < (j : Int) := by omega
                  have hcap := own_capv HOW.out _ _ _ rfl
                  have hrd : ∀ x ∈ b.bs, Reads wr x.1 x.2 := fun x hx => (HTX.out x hx).1
                  obtain ⟨m, hm⟩ : ∃ m : Msg, A.full o r h b = m := ⟨_, rfl⟩
                  have HINM : Hid (MsgIn wr m) := Lib.hid (by rw [← hm]; exact HIN.out.newBs b (Rows2.of_own HOW.out hrd) hrd ⟨hcap.1, hcap.2⟩)
                  have HBTM : Hid (MsgBtw base wr.heap.size m) := Lib.hid (by
                    rw [← hm]
                    exact (HBT.out.mono (Nat.le_refl _) hsz).newBs b (fun x e n0 => by
                      have h1 := HOW.out.lt x.block (by rw [e]; rfl)
                      have := HLO3.out
                      omega) (fun x hx a n c e n0 => by
                      have h1 := (HTX.out x hx).2 a n c e
                      have := HLO3.out
                      omega))
                  have HEQV : Hid (∀ m' : Msg, m'.Good → m'.bytes = bs → m.Eqv m') := Lib.hid (by
                    intro m' gm hb
                    obtain ⟨hi1, hi2, hi3, hi4, hi5, hi6, hi7, hi8, hi9, hi10, hi11, hi12, hi13⟩ := HI.out
                    obtain ⟨hn1, hn2, hn3, hn4, hn5, hn6, hn7, hhh, hn9, hn10, htx, hty⟩ := HNN.out
                    obtain ⟨q1, q2, q3, q4, q5, q6, q7, q8, q9, q10, q11, q12, q13, q14⟩ := rd_of_msg gm hb i1 i2 i3 i4 i5 i6 i7 i8 i9 i10 i11 i12 i13 i14 i15 i16 hi1 hi2 hi3 hi4 hi5 hi6 hi7 hi8 hi9 hi10 hi11 hi12 hi13 HI14.out (by rw [HKK.out]; exact HI15.out) HI16.out
                    rw [hn1] at q1
                    rw [hn2] at q2
                    rw [hn3] at q3
                    rw [hn4] at q4
                    rw [hn5] at q5
                    rw [hn6] at q6
                    rw [hn7] at q7
                    rw [hhh] at q8
                    rw [hn9] at q9
                    rw [hn10] at q10
                    rw [htx] at q11
                    rw [hty] at q12
                    rw [HKK.out, ← HHS.out] at q13
                    rw [HKB.out, ← HBS.out] at q14
                    have g1 := HGO.out
                    rw [q11] at g1
                    have g2 := HGA.out
                    rw [q12] at g2
                    have e1 := op_got gm.right g1
                    have e2 := ans_got gm.right g2
                    have hA := HA.out
                    subst hm
                    subst hA
                    exact ⟨q1, q2, q3, q4, q5, q6, q7, q8, q9, q10, e1, e2, q13, q14⟩)
                  have HSTM : Hid (WSt wz w wr E yv bs (namesTo bs i16 j) B4 G base m) := Lib.hid (by rw [← hm]; exact HST.out)
                  have HBG : Hid (wr.heap[G]? = some (.cells m.cells.toArray 45 (0, 0))) := Lib.hid HSTM.out.msg.1
                  have HMD : Hid (m.hd.length = 32) := Lib.hid HSTM.out.msg.2
                  have HSZM := Lib.hid (Tryd.sizeMsgOf m HMD.out)
                  have HWR := Lib.hid (wireWrite_any m wr HINM.out (HNUM.out.keep HSTM.out.same (fun e => e)))
                  unfold WirePost at HWR
                  have HSZZ : Hid ((Tryd.prog.info? 45).map (·.size) = some zeroM.cells.toArray.size) := Lib.hid (Tryd.sizeMsgOf zeroM rfl)
                  have HEX : Hid (zeroM.cells.toArray.size = m.cells.toArray.size) := Lib.hid (by rw [List.size_toArray, List.size_toArray, m.cells_length HMD.out, zeroM.cells_length rfl])
                  have HHI : Hid (w.heap.size ≤ base) := Lib.hid (by have := HSTM.out.ne; omega)
                  obtain ⟨zc, hzc⟩ : ∃ z, zeroM.cells.toArray = z := ⟨_, rfl⟩
                  have HZC : Hid (zc = zeroM.cells.toArray) := Lib.hid hzc.symm
                  clear hcap hrd hm HIN HOW HTX HST HI HNN HHS HBS HGO HGA HA HBT
                  go_wp2_with (refine wpList_load_row (by rfl) 45 _ (by rfl) G (by rfl) 45 m.cells.toArray (0, 0) _ HBG.out Tryd.underlying45 rfl HSZM.out ?_)
                  ((with_reducible refine HWR.out.mono ?_); rintro e w25 ⟨hk25, hr25⟩)
                  have HST25 := Lib.hid (HSTM.out.same' hk25)
                  have HIN25 : Hid (MsgIn w25 m) := Lib.hid (HINM.out.same hk25)
                  have HBT25 : Hid (MsgBtw base w25.heap.size m) := Lib.hid (HBTM.out.mono (Nat.le_refl _) hk25.size)
                  have HRS : Hid (Whole w25 w.heap.size 45 zeroM.cells) := Lib.hid HST25.out.res
                  have HENDZ : Hid (Same w (w25.setRow w.heap.size zc) ∧ (w25.setRow w.heap.size zc).heap[w.heap.size]? = some (.cells zc 45 (0, 0))) := Lib.hid
                    ⟨HST25.out.same.setRow _ _ (.inl (Nat.le_refl _)), by rw [HZC.out]; exact HRS.out.row⟩
                  have HALZ : Hid (zc.all (·.oneCell') = true) := Lib.hid (by rw [HZC.out]; exact zeroM.cells_all)
                  have HSZC : Hid ((Tryd.prog.info? 45).map (·.size) = some zc.size) := Lib.hid (by rw [HZC.out]; exact HSZZ.out)
                  have HRSZ : Hid (w25.heap[w.heap.size]? = some (.cells zc 45 (0, 0))) := Lib.hid (by rw [HZC.out]; exact HRS.out)
                  rcases hr25 with ⟨hR, v, rfl, ho25⟩ | ⟨hR, rfl⟩
                  case inr =>
                    have HNO : Hid (∀ m' : Msg, m'.Good → m'.bytes ≠ bs) := Lib.hid (fun m' gm hb => hR ((HEQV.out m' gm hb).right gm.right))
                    clear hR hk25 hzc
                    go_wp2_with (first
                      | (refine wpList_buildTo (by rfl) 45 _ (by rfl) _ (by rfl) zc (by rw [HZC.out]; kernel_rfl) ?_)
                      | (refine wpList_store_row (by rfl) 45 _ _ (by rfl) w.heap.size zc (by rfl) (by rfl) 45 zc HRSZ.out HSZC.out rfl HALZ.out ?_))
                    refine bodyPost_ret (v := .tuple #[.agg zc, .int .i64 22]) (results_row_tmp (p := 2) (u := 3) (ty := 45) rfl _ _ w.heap.size 45 _ (0, 0) _ (by rfl) HENDZ.out.2 Tryd.underlying45 rfl HSZC.out) rfl
                      ⟨HENDZ.out.1, zeroM, 22, by rw [HZC.out], zero_in _, zero_btw _ _, .inr ⟨HNO.out, rfl, rfl⟩⟩
                  have HR := Lib.hid hR
                  obtain ⟨X, hX⟩ : ∃ X, m.bytes = X := ⟨_, rfl⟩
                  rw [hX] at ho25
                  obtain ⟨vo, vc, rfl, hb25, hs25, hc25⟩ := Reads.of_own ho25 rfl
                  have HEQ := Lib.hid (bytesEqual_any vo ao _ bs vc c w25 hb25 (HX.out.same HST25.out.same) hs25 HSP.out)
                  have HXX := Lib.hid hX
                  clear ho25 hb25 hs25 hc25 hk25 hR hX
                  by_cases hE2 : X = bs
                  · rw [decide_eq_true hE2] at HEQ
                    have HE := Lib.hid hE2
                    have hkf : Keeps (fun q => q = w.heap.size) w25 (w25.setRow w.heap.size m.cells.toArray) := (Keeps.refl _ _).setRow _ _ (.inr rfl)
                    have HEND : Hid (Same w (w25.setRow w.heap.size m.cells.toArray) ∧ Whole (w25.setRow w.heap.size m.cells.toArray) w.heap.size 45 m.cells ∧ MsgIn (w25.setRow w.heap.size m.cells.toArray) m ∧ MsgBtw w.heap.size (w25.setRow w.heap.size m.cells.toArray).heap.size m) := Lib.hid
                      ⟨HST25.out.same.setRow _ _ (.inl (Nat.le_refl _)), HRS.out.row, HIN25.out.keep HBT25.out hkf (fun q e => by have := HST25.out.ne; omega), HBT25.out.mono HHI.out hkf.size⟩
                    have HBG25 : Hid (w25.heap[G]? = some (.cells m.cells.toArray 45 (0, 0))) := Lib.hid HST25.out.msg.1
                    have HAL : Hid (m.cells.toArray.all (·.oneCell') = true) := Lib.hid m.cells_all
                    clear hE2 hkf hzc
                    go_wp2_with fail
                    ((with_reducible refine HEQ.out.mono ?_); rintro e w26 ⟨rfl, h26⟩)
                    subst h26
                    go_wp2_with (first
                      | (refine wpList_load_row (by rfl) 45 _ (by rfl) G (by rfl) 45 m.cells.toArray (0, 0) _ HBG25.out Tryd.underlying45 rfl HSZM.out ?_)
                      | (refine wpList_store_row (by rfl) 45 _ _ (by rfl) w.heap.size m.cells.toArray (by rfl) (by rfl) 45 zeroM.cells.toArray HRS.out HSZM.out HEX.out HAL.out ?_))
                    refine bodyPost_ret (v := .tuple #[.agg m.cells.toArray, .int .i64 0]) (results_row_tmp (p := 2) (u := 3) (ty := 45) rfl _ _ w.heap.size 45 _ (0, 0) _ (by rfl) HEND.out.2.1 Tryd.underlying45 rfl HSZM.out) rfl
                      ⟨HEND.out.1, m, 0, rfl, HEND.out.2.2.1, HEND.out.2.2.2, .inl ⟨HR.out, HXX.out.trans HE.out, rfl⟩⟩
                  · rw [decide_eq_false hE2] at HEQ
                    have HNO : Hid (∀ m' : Msg, m'.Good → m'.bytes ≠ bs) := Lib.hid (fun m' gm hb => hE2 (by rw [← HXX.out, (HEQV.out m' gm hb).bytes, hb]))
                    clear hE2 hzc
                    go_wp2_with fail
                    ((with_reducible refine HEQ.out.mono ?_); rintro e w26 ⟨rfl, h26⟩)
                    subst h26
                    go_wp2_with (first
                      | (refine wpList_buildTo (by rfl) 45 _ (by rfl) _ (by rfl) zc (by rw [HZC.out]; kernel_rfl) ?_)
                      | (refine wpList_store_row (by rfl) 45 _ _ (by rfl) w.heap.size zc (by rfl) (by rfl) 45 zc HRSZ.out HSZC.out rfl HALZ.out ?_))
                    refine bodyPost_ret (v := .tuple #[.agg zc, .int .i64 22]) (results_row_tmp (p := 2) (u := 3) (ty := 45) rfl _ _ w.heap.size 45 _ (0, 0) _ (by rfl) HENDZ.out.2 Tryd.underlying45 rfl HSZC.out) rfl
                      ⟨HENDZ.out.1, zeroM, 22, by rw [HZC.out], zero_in _, zero_btw _ _, .inr ⟨HNO.out, rfl, rfl⟩⟩
end Go.Proofs.YtafgiljgefeefaaDoor
