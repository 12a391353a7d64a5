/- The walk of DiskLasts. -/
import Derived.Test.YtoimhniijeafaaaDk20
namespace Go.Proofs.Ytoimhniijeafaaa
open Go.RowKit
set_option linter.unusedVariables false

theorem nil8 : (List.range 8).map (fun _ => Value.slice none 0 0) = [.slice none 0 0, .slice none 0 0, .slice none 0 0, .slice none 0 0, .slice none 0 0, .slice none 0 0, .slice none 0 0, .slice none 0 0] := rfl
theorem Try.infoSl : (Try.prog.info? 31).map (fun i => (i.zero, i.size, i.bytes)) = some (some (.slice none 0 0), 1, 24) := by kernel_rfl

variable {w wr w' : World} {D : Nat} {F F' : Nat → Prop} {s s' : DSt} {M : Nat} {vs : Nat → Value} {R : Nat → List (Value × List UInt8)} {X : List (Value × List UInt8)}
theorem unwanted_not {ops : Array Oper} {o : Oper} {tmps : Array Value} (j d : Nat) (b : Bool) (hg : o.guard = some (j, b)) (hd : (ops[j]?).bind (·.dst) = some d) (h : tmps[d]?.getD undef = .bool (!b)) : Region.wanted o (yielded ops tmps) = false := by
  unfold Region.wanted
  rw [hg]
  have h2 : tmps[d]? = some (.bool (!b)) := by
    cases hq : tmps[d]? with
    | none => rw [hq] at h; simp [undef] at h
    | some v => rw [hq] at h; simp at h; rw [h]
  simp [yielded, hd, h2]
theorem unwanted_undef {ops : Array Oper} {o : Oper} {tmps : Array Value} (j d : Nat) (b : Bool) (hg : o.guard = some (j, b)) (hd : (ops[j]?).bind (·.dst) = some d) (h : tmps[d]?.getD undef = undef) : Region.wanted o (yielded ops tmps) = false := by
  unfold Region.wanted
  rw [hg]
  cases hq : tmps[d]? with
  | none => simp [yielded, hd, hq]
  | some v => rw [hq] at h; simp at h; subst h; simp [yielded, hd, hq, undef]
theorem row_append (w wr : World) (vi : Value) (n : Nat) (xs : List Value) (h : wr.ownsRow w.heap.size 31 1 vi n xs) (v : Value) (lit : Nat) (hlit : wr.cell? ⟨lit, 0, none⟩ = some v) (hv1 : v.oneCell' = true) (hlen : n ≤ 100000) (hw : w.heap.size ≤ wr.heap.size) :
    ∃ g cap w2, (Builtin.append_ #[46, 46] 46 #[vi, .slice (some ⟨lit, 0, none⟩) 1 1]).run Try.prog wr = .ok (.slice (some ⟨g, 0, none⟩) (n + 1) cap) w2 ∧
      w2.ownsRow w.heap.size 31 1 (.slice (some ⟨g, 0, none⟩) (n + 1) cap) (n + 1) (xs ++ [v]) ∧ Keeps (fun q => vi.ownBlock = some q) wr w2 ∧ (vi.ownBlock = some g ∨ wr.heap.size ≤ g) := by
  obtain ⟨il, hil, hl0, hl1, hl2⟩ := info_parts Try.infoSl
  obtain ⟨g, cp, w2, hrun, ho, hg, hat, _⟩ := run_append_lies (P := Try.prog) wr 46 46 w.heap.size 31 il (.slice none 0 0) 1 24 Try.underlying46 hil hl0 hl1 hl2 (by rfl) (by omega) vi n xs h ⟨lit, 0, none⟩ 1 1 [v] (by rfl)
    (fun j u hu => by
      cases j with
      | zero => simp at hu; subst hu; exact hlit
      | succ j => simp at hu) (by simp [hv1]) (by omega) (by simp only [maxLen]; omega) (by omega) hw wr.heap.size rfl
  refine ⟨g, cp, w2, hrun, ho, (Keeps.refl _ _).grown hg (fun k e _ => e), ?_⟩
  rcases hat with hat | hat
  · exact .inl hat
  · exact .inr (by omega)
def MayE (w : World) (vi : Value) (n : Nat) (xs : List Value) (pv : Value) (lo : Nat) : Nat → Value → World → Prop
  | 0, _, w' => w'.ownsRow w.heap.size 31 1 vi n xs
  | _ + 1, v, w' => ∃ g cap, v = .slice (some ⟨g, 0, none⟩) (n + 1) cap ∧ w'.ownsRow w.heap.size 31 1 v (n + 1) (xs ++ [pv]) ∧ (vi.ownBlock = some g ∨ lo ≤ g)
theorem MayE.same {w : World} {vi : Value} {n : Nat} {xs : List Value} {pv : Value} {lo : Nat} (q : Nat) (v : Value) (a b : World) (h : MayE w vi n xs pv lo q v a) (k : Same a b) : MayE w vi n xs pv lo q v b := by
  cases q with
  | zero => exact own_keeps k h (fun _ _ e => e)
  | succ q =>
    obtain ⟨g, c, e, h1, h2⟩ := h
    exact ⟨g, c, e, own_keeps k h1 (fun _ _ e => e), h2⟩
theorem may_append (h : LsI w wr D F s M vs R X) (i : Nat) (hi : i < 8) (v : Value) (lit : Nat) (hlit : wr.cell? ⟨lit, 0, none⟩ = some v) (hv1 : v.oneCell' = true) (hlen : (R i).length ≤ 100000) :
    ∃ g cap w2, (Builtin.append_ #[46, 46] 46 #[vs i, .slice (some ⟨lit, 0, none⟩) 1 1]).run Try.prog wr = .ok (.slice (some ⟨g, 0, none⟩) ((R i).length + 1) cap) w2 ∧
      w2.ownsRow w.heap.size 31 1 (.slice (some ⟨g, 0, none⟩) ((R i).length + 1) cap) ((R i).length + 1) ((R i).map (·.1) ++ [v]) ∧ Keeps (fun q => (vs i).ownBlock = some q) wr w2 ∧ ((vs i).ownBlock = some g ∨ wr.heap.size ≤ g) := by
  obtain ⟨il, hil, hl0, hl1, hl2⟩ := info_parts Try.infoSl
  obtain ⟨g, cp, w2, hrun, ho, hg, hat, _⟩ := run_append_lies (P := Try.prog) wr 46 46 w.heap.size 31 il (.slice none 0 0) 1 24 Try.underlying46 hil hl0 hl1 hl2 (by rfl) (by omega) (vs i) (R i).length ((R i).map (·.1)) (h.outer i hi).1 ⟨lit, 0, none⟩ 1 1 [v] (by rfl)
    (fun j u hu => by
      cases j with
      | zero => simp at hu; subst hu; exact hlit
      | succ j => simp at hu) (by simp [hv1]) (by omega) (by simp only [maxLen]; omega) (by omega) h.same.size wr.heap.size rfl
  refine ⟨g, cp, w2, hrun, ho, (Keeps.refl _ _).grown hg (fun k e _ => e), ?_⟩
  rcases hat with hat | hat
  · exact .inl hat
  · exact .inr (by omega)

set_option maxRecDepth 100000 in
set_option maxHeartbeats 25600000 in
theorem lasts_ok (w : World) (ao bo fo : Option Addr) (n1 c1 n2 c2 nf fc : Nat) (ops1 ops2 : List LOp) (fs : List Int) (hn1 : n1 = ops1.length) (ho1 : Ops w ao ops1) (hn2 : n2 = ops2.length) (ho2 : Ops w bo ops2) (hnf : nf = fs.length) (hf : Ints w (.slice fo nf fc) fs) :
    Calls Try.prog 5 #[.slice ao n1 c1, .slice bo n2 c2, .slice fo nf fc] w fun e w' => e = .returned (.bool true) ∧ Same w w' := by
  obtain ⟨il, hil, hl0, hl1, hl2⟩ := info_parts Try.infoSl
  have HN1 := Lib.hid hn1
  have HO1 := Lib.hid ho1
  have HN2 := Lib.hid hn2
  have HO2 := Lib.hid ho2
  have HNF := Lib.hid hnf
  have HF := Lib.hid hf
  clear hn1 ho1 hn2 ho2 hnf hf
  cases hq1 : greatOf ops1 with
  | true =>
    have HQ := Lib.hid hq1
    clear hq1
    go_enter Try.func5, Try.ntmps5
    go_wp2_with fail
    (refine (speaks_ok _).mono ?_); rintro e w0 ⟨rfl, hk0⟩
    have HK0 := Lib.hid hk0
    clear hk0
    go_wp2_with fail
    (refine (great_ok' true _ ao n1 c1 ops1 HN1.out (HO1.out.same HK0.out) HQ.out).mono ?_); rintro e w1 ⟨rfl, hk⟩
    go_wp2
    go_ret
    exact ⟨rfl, HK0.out.trans hk (fun _ _ e => e)⟩
  | false =>
  have HQ1 := Lib.hid hq1
  have HG1 := Lib.hid (great_of ops1 hq1)
  have hnb1 : n1 ≤ 1000 := by have := HN1.out; have := HG1.out.1; omega
  clear hq1
  cases hq2 : greatOf ops2 with
  | true =>
    have HQ := Lib.hid hq2
    clear hq2
    go_enter Try.func5, Try.ntmps5
    go_wp2_with fail
    (refine (speaks_ok _).mono ?_); rintro e w0 ⟨rfl, hk0⟩
    have HK0 := Lib.hid hk0
    clear hk0
    go_wp2_with fail
    (refine (great_ok' false _ ao n1 c1 ops1 HN1.out (HO1.out.same HK0.out) HQ1.out).mono ?_); rintro e w1 ⟨rfl, hk⟩
    have HK1 : Hid (Same w w1) := Lib.hid (HK0.out.trans hk (fun _ _ e => e))
    clear HK0 hk
    go_wp2_with fail
    (refine (great_ok' true _ bo n2 c2 ops2 HN2.out (HO2.out.same HK1.out) HQ.out).mono ?_); rintro e w2 ⟨rfl, hk⟩
    go_wp2
    go_ret
    exact ⟨rfl, HK1.out.trans hk (fun _ _ e => e)⟩
  | false =>
  have HQ2 := Lib.hid hq2
  have HG2 := Lib.hid (great_of ops2 hq2)
  have hnb2 : n2 ≤ 1000 := by have := HN2.out; have := HG2.out.1; omega
  clear hq2
  go_enter Try.func5, Try.ntmps5
  go_wp2_with fail
  (refine (speaks_ok _).mono ?_); rintro e w0 ⟨rfl, hk0⟩
  have HK0 := Lib.hid hk0
  clear hk0
  go_wp2_with fail
  (refine (great_ok' false _ ao n1 c1 ops1 HN1.out (HO1.out.same HK0.out) HQ1.out).mono ?_); rintro e w1 ⟨rfl, hk⟩
  have HK1 : Hid (Same w w1) := Lib.hid (HK0.out.trans hk (fun _ _ e => e))
  clear HK0 hk
  go_wp2_with fail
  (refine (great_ok' false _ bo n2 c2 ops2 HN2.out (HO2.out.same HK1.out) HQ2.out).mono ?_); rintro e w2 ⟨rfl, hk⟩
  have HK2 : Hid (Same w w2) := Lib.hid (HK1.out.trans hk (fun _ _ e => e))
  clear HK1 hk
  go_wp2_with fail
  (refine (dk_new 8 _ (by decide) (by decide)).mono ?_); rintro e w3 ⟨D, F0, rfl, hd, hk, hf0⟩
  rw [show Int.toNat 8 = 8 from rfl, st_new] at hd
  obtain ⟨L, hL⟩ : ∃ L, List.replicate 8 noughts = L := ⟨_, rfl⟩
  rw [hL] at hd
  have HL : Hid (L.length = 8) := Lib.hid (by rw [← hL]; exact List.length_replicate)
  have HI := Lib.hid (SpI.of_new hd (HK2.out.trans hk (fun _ _ e => e)) (fun k e => by have := hf0 k e; have := HK2.out.size; omega))
  clear hd hk hf0 HK2 hL
  go_wp2
  go_loopw [42] (fun i wr => ∃ (j : Nat) (O : List (Nat × List UInt8)) (F : Nat → Prop), j ≤ n1 ∧ i = .int .i64 j ∧ SpI w wr D F (st L O) [] ∧ O.length = j) (fun i _ => n1 - (intOf i).toNat)
  case atStart => exact ⟨0, [], F0, by omega, rfl, HI.out, rfl⟩
  case round =>
    obtain ⟨j, O, F, hj, rfl, hi, hol⟩ := hrel
    have HI2 := Lib.hid hi
    have HOL := Lib.hid hol
    clear hi hol
    by_cases hlt : j < n1
    · have hlt2 : (j : Int) < (n1 : Int) := by omega
      have hjo : j < ops1.length := by have := HN1.out; omega
      obtain ⟨go, off, rfl, hat⟩ := (HO1.out.same HI2.out.2.1).at (by omega)
      have hat2 := hat j hjo
      have HLS := Lib.hid (sizeLOp ops1[j])
      generalize ops1[j] = x at *
      have HRA := Lib.hid hat2.1
      obtain ⟨BX, hBX⟩ : ∃ BX, filled x.ds = BX := ⟨_, rfl⟩
      have HBL : Hid (BX.length = 512) := Lib.hid (by rw [← hBX]; exact filled_length _)
      have HBX := Lib.hid hBX
      obtain ⟨p, hp⟩ : ∃ p : Nat, x.at' % 8 = (p : Int) := ⟨(x.at' % 8).toNat, by omega⟩
      have HP : Hid (p < L.length) := Lib.hid (by rw [HL.out]; omega)
      have EM : Hid (bits BinOp.and IntKind.i64 x.at' 7 = (p : Int)) := Lib.hid (by rw [and_7]; exact hp)
      obtain ⟨w3, hst, hb3, hk3, hs3⟩ := store_lop wr x
      have HOB := Lib.hid (show Whole w3 wr.heap.size 34 x.cells from hb3)
      have HIN : Hid (x.In w3) := Lib.hid ⟨hat2.2.1.same hk3, hat2.2.2.same hk3⟩
      have HI3 := Lib.hid (HI2.out.same hk3)
      clear hb3 hk3 hat hat2 hBX hp hs3
      go_wp2_with (refine wpList_load_mid (by rfl) 34 _ (by rfl) go (off + j * 5) (by rfl) x.cells _ HRA.out Try.underlying34 rfl HLS.out ?_)
      clear hst
      refine wp_region_tail [[], [], [1], [2], [], [4], [5], [6], [0, 3, 7, 7]]
        [some 46, some 47, some 48, some 49, some 50, some 51, some 52, some 53, some 54]
        [.is (.pointer (some ⟨D, 0, none⟩)), .is (.pointer (some ⟨wr.heap.size, 1, none⟩)), .is (.int .i64 x.at'), .is (.int .i64 (p : Nat)), .is (.pointer (some ⟨wr.heap.size, 2, none⟩)), .is (.slice x.da x.ds.length x.dc), .is (opv 0 0 (.slice x.da x.ds.length x.dc) false (.slice none 0 0)), .own 5 BX]
        (fun _ => False) [] (fun _ _ => True) 11 _ _ 163 8 9 (by kernel_rfl) (by rfl) (by rfl) (by omega) (by kernel_rfl) (by kernel_rfl) (by decide) (by decide) (fun _ e => e.elim) trivial (fun _ _ _ h _ => h) ?_ ?_
      · refine ⟨?_, ?_, ?_, ?_, ?_, ?_, ?_, ?_, trivial⟩
        · intro a w' K hk hdep hfr hK
          have f7 := hfr 7 (by decide)
          exact plan_do (by rfl) (plan_yield (i := 0) (V := fun _ _ v => v = (.pointer (some ⟨D, 0, none⟩) : Value)) (.pointer (some ⟨D, 0, none⟩)) (by go_simp) rfl hK)
        · intro a w' K hk hdep hfr hK
          have f10 := hfr 10 (by decide)
          exact plan_do (by rfl) (plan_yield (i := 1) (V := fun _ _ v => v = (.pointer (some ⟨wr.heap.size, 1, none⟩) : Value)) (.pointer (some ⟨wr.heap.size, 1, none⟩)) (by go_simp) rfl hK)
        · intro a w' K hk hdep hfr hK
          have e47 : a.tmps[47]?.getD undef = (.pointer (some ⟨wr.heap.size, 1, none⟩)) := hdep 1 (by decide) 47 rfl
          have cl := (cell_of_five (HOB.out.keep hk (fun e => e))).2.1
          exact plan_do (by rfl) (plan_yield (i := 2) (V := fun _ _ v => v = (.int .i64 x.at' : Value)) (.int .i64 x.at') (by go_simp) rfl hK)
        · intro a w' K hk hdep hfr hK
          have e48 : a.tmps[48]?.getD undef = (.int .i64 x.at') := hdep 2 (by decide) 48 rfl
          have em := EM.out
          exact plan_do (by rfl) (plan_yield (i := 3) (V := fun _ _ v => v = (.int .i64 (p : Nat) : Value)) (.int .i64 (p : Nat)) (by go_simp) rfl hK)
        · intro a w' K hk hdep hfr hK
          have f10 := hfr 10 (by decide)
          exact plan_do (by rfl) (plan_yield (i := 4) (V := fun _ _ v => v = (.pointer (some ⟨wr.heap.size, 2, none⟩) : Value)) (.pointer (some ⟨wr.heap.size, 2, none⟩)) (by go_simp) rfl hK)
        · intro a w' K hk hdep hfr hK
          have e50 : a.tmps[50]?.getD undef = (.pointer (some ⟨wr.heap.size, 2, none⟩)) := hdep 4 (by decide) 50 rfl
          have cl := (cell_of_five (HOB.out.keep hk (fun e => e))).2.2.1
          exact plan_do (by rfl) (plan_yield (i := 5) (V := fun _ _ v => v = (.slice x.da x.ds.length x.dc : Value)) (.slice x.da x.ds.length x.dc) (by go_simp) rfl hK)
        · intro a w' K hk hdep hfr hK
          have e51 : a.tmps[51]?.getD undef = (.slice x.da x.ds.length x.dc) := hdep 5 (by decide) 51 rfl
          exact plan_do (by rfl) (plan_yield (i := 6) (V := fun _ _ v => v = (opv 0 0 (.slice x.da x.ds.length x.dc) false (.slice none 0 0) : Value)) (opv 0 0 (.slice x.da x.ds.length x.dc) false (.slice none 0 0)) (by go_simp) rfl hK)
        · intro a w' K hk hdep hfr hK
          have e52 : a.tmps[52]?.getD undef = (opv 0 0 (.slice x.da x.ds.length x.dc) false (.slice none 0 0)) := hdep 6 (by decide) 52 rfl
          refine plan_do (by rfl) (plan_call 13 #[opv 0 0 (.slice x.da x.ds.length x.dc) false (.slice none 0 0)] (by go_simp) ?_)
          exact (dk_bytes 0 0 x.da none x.ds.length x.dc 0 0 x.ds BX w' rfl (HIN.out.1.same hk) HBX.out).mono fun e w'' ⟨g, he, ho, hk2⟩ => ⟨_, he, hK _ _ hk2 ⟨g, 512, by rw [HBL.out], by rw [HBL.out]; exact own_base ho hk.size⟩⟩
      intro a wz hkz hdef hsz hv hfr _
      have e46 : a.tmps[46]?.getD undef = .pointer (some ⟨D, 0, none⟩) := hv 0 46 (by omega) rfl
      have e49 : a.tmps[49]?.getD undef = .int .i64 (p : Nat) := hv 3 49 (by omega) rfl
      obtain ⟨gz, cz, e53, hoz⟩ : ∃ g cap, a.tmps[53]?.getD undef = .slice (some ⟨g, 0, none⟩) BX.length cap ∧ wz.ownsRow w3.heap.size 5 1 (.slice (some ⟨g, 0, none⟩) BX.length cap) BX.length (u8s BX) := hv 7 53 (by omega) rfl
      rw [HBL.out] at e53 hoz
      have he := act_eq a _ [some 46, some 47, some 48, some 49, some 50, some 51, some 52, some 53, some 54] 163 rfl hsz hdef hfr (fun d => a.tmps[d]?.getD undef) (fun _ _ => rfl)
      obtain ⟨v47, h47⟩ : ∃ v, a.tmps[47]?.getD undef = v := ⟨_, rfl⟩
      obtain ⟨v48, h48⟩ : ∃ v, a.tmps[48]?.getD undef = v := ⟨_, rfl⟩
      obtain ⟨v50, h50⟩ : ∃ v, a.tmps[50]?.getD undef = v := ⟨_, rfl⟩
      obtain ⟨v51, h51⟩ : ∃ v, a.tmps[51]?.getD undef = v := ⟨_, rfl⟩
      obtain ⟨v52, h52⟩ : ∃ v, a.tmps[52]?.getD undef = v := ⟨_, rfl⟩
      obtain ⟨v54, h54⟩ : ∃ v, a.tmps[54]?.getD undef = v := ⟨_, rfl⟩
      simp only [putAll, h47, h48, h50, h51, h52, h54, e46, e49, e53, List.setIfInBounds_toArray, List.set_cons_zero, List.set_cons_succ] at he
      clear h47 h48 h50 h51 h52 h54 e46 e49 e53 hdef hsz hv hfr
      subst he
      have HI4 := Lib.hid (HI3.out.same hkz)
      have HOZ := Lib.hid hoz
      have HFZ : Hid (¬ F gz) := Lib.hid (fun e => by have := HI3.out.1.lt _ e; have := (hoz.lt gz rfl).1; omega)
      clear hkz hoz
      go_wp2_with fail
      (refine (st_write w wz D F L O [] p gz cz BX HI4.out HP.out (own_base HOZ.out (Nat.zero_le _)) HBL.out HFZ.out (by have := HOL.out; omega)).mono ?_); rintro e w5 ⟨F5, rfl, hi5, _, _⟩
      have HI5 := Lib.hid hi5
      have HO5 : Hid ((O ++ [(p, BX)]).length = j + 1) := Lib.hid (by rw [List.length_append, HOL.out]; rfl)
      clear hi5
      go_wp2
      go_roundw
      case rel => exact ⟨j + 1, _, F5, by omega, by go_num, HI5.out, HO5.out⟩
      case measure => simp [intOf]; omega
    have hlt2 : ¬ (j : Int) < (n1 : Int) := by omega
    go_wp2_with fail
    (refine (st_flush w wr D F L O [] HI2.out (by have := HOL.out; omega)).mono ?_); rintro e w4 ⟨F4, rfl, hi4, _, _⟩
    obtain ⟨L1, hL1⟩ : ∃ L1, applied L O = L1 := ⟨_, rfl⟩
    have HL1 : Hid (L1.length = 8) := Lib.hid (by rw [← hL1, applied_len]; exact HL.out)
    rw [hL1] at hi4
    have HI4 := Lib.hid hi4
    clear hi4 hL1 HI2 hlt2 HOL
    obtain ⟨w5, hw5⟩ : ∃ w5, w4.alloc (.cells #[.slice none 0 0, .slice none 0 0, .slice none 0 0, .slice none 0 0, .slice none 0 0, .slice none 0 0, .slice none 0 0, .slice none 0 0] 47) = w5 := ⟨_, rfl⟩
    have hk5 : Same w4 w5 := by rw [← hw5]; exact (Keeps.refl _ _).alloc _
    have hb5 : Whole w5 w4.heap.size 47 ((List.range 8).map (fun _ => Value.slice none 0 0)) := by rw [← hw5]; exact heap_alloc_new w4 _
    obtain ⟨M, hM⟩ : ∃ M, w4.heap.size = M := ⟨_, rfl⟩
    rw [hM] at hb5
    have hM4 : w.heap.size ≤ M := by rw [← hM]; exact HI4.out.2.1.size
    have HI5 : Hid (LsI w w5 D F4 (st L1 []) M (fun _ => .slice none 0 0) (fun _ => []) []) := Lib.hid
      ⟨HI4.out.1.same hk5, HI4.out.2.1.trans hk5 (fun _ _ e => e), HI4.out.2.2.1, hb5, hM4, fun e => by have := HI4.out.1.lt _ e; omega, fun i hi => ⟨World.ownsRow_nil _ _ _ _, by simp [Value.ownBlock], by simp [Value.ownBlock]⟩, by simp [Value.ownBlock], by simp, by simp⟩
    have HW5 := Lib.hid hw5
    clear hb5 hk5 hw5
    go_wp2_with fail
    rw [HW5.out]
    clear hM HI4
    go_loopw [60] (fun i wr => ∃ (k : Nat) (vs : Nat → Value) (R : Nat → List (Value × List UInt8)), k ≤ 8 ∧ i = .int .i64 k ∧ LsI w wr D F4 (st L1 []) M vs R [] ∧ (∀ q, q < k → ∃ p ∈ R q, p.2 = L1.getD q []) ∧ ∀ q, q < 8 → (R q).length ≤ k) (fun i _ => 8 - (intOf i).toNat)
    case atStart => exact ⟨0, fun _ => .slice none 0 0, fun _ => [], by omega, rfl, HI5.out, by omega, by simp⟩
    case round =>
      obtain ⟨k, vs, R, hk8, rfl, hi, hc, hr⟩ := hrel
      have HI6 := Lib.hid hi
      have HC := Lib.hid hc
      have HR := Lib.hid hr
      clear hi hc hr HI5
      by_cases hk : k < 8
      · have hk2 : (k : Int) < 8 := by omega
        have HKL : Hid (k < L1.length) := Lib.hid (by rw [HL1.out]; exact hk)
        have HSL : Hid ((seenAt L1 [] k).length = 512) := Lib.hid (HI6.out.dk.seen_len HKL.out)
        have HSE : Hid (seenAt L1 [] k = L1.getD k []) := Lib.hid rfl
        generalize seenAt L1 [] k = SK at *
        go_wp2_with fail
        (refine (st_read _ D F4 L1 [] k HI6.out.dk HKL.out (by decide)).mono ?_); rintro e w6 ⟨v, rfl, ho, hkr⟩
        rw [show seenAt L1 [] k = SK from HSE.out.symm] at ho
        obtain ⟨gv, cv, rfl, _⟩ := ho.form (by decide)
        have HI7 := Lib.hid (HI6.out.fresh hkr HSL.out ho)
        have HW6 : Hid (wr.heap.size ≤ w6.heap.size) := Lib.hid hkr.size
        clear ho hkr HI6
        have ca := (HI7.out.arr.cell (i := k) (v := vs k) (by simp [hk]))
        have HI8 := Lib.hid (HI7.out.keep ((Keeps.refl (fun _ => False) w6).alloc (.cells #[.slice (some ⟨gv, 0, none⟩) 512 cv] 31)))
        obtain ⟨w8, hw8⟩ : ∃ w8, w6.alloc (.cells #[.slice (some ⟨gv, 0, none⟩) 512 cv] 31) = w8 := ⟨_, rfl⟩
        have hb8 : w8.heap[w6.heap.size]? = some (.cells #[.slice (some ⟨gv, 0, none⟩) 512 cv] 31 (0, 0)) := by rw [← hw8]; exact heap_alloc_new w6 _
        rw [hw8] at HI8
        obtain ⟨g, cp, w9, hrun, hown, hkeep, hat⟩ := may_append HI8.out k hk (.slice (some ⟨gv, 0, none⟩) 512 cv) w6.heap.size (by rw [cell_of_row _ _ _ _ _ _ hb8]; rfl) rfl (by have := HR.out k hk; omega)
        have HAD := Lib.hid (HI8.out.add k hk (.slice (some ⟨gv, 0, none⟩) 512 cv, SK) (HI8.out.pend _ (List.mem_cons_self ..)) w9 hkeep _ hown g rfl hat)
        have cb := (HI8.out.arr.keep hkeep (HI8.out.outer k hk).2.1).cell (i := k) (v := vs k) (by simp [hk])
        have fb := (HI8.out.arr.keep hkeep (HI8.out.outer k hk).2.1).free k
        have HW8 := Lib.hid hw8
        have HRUN := Lib.hid hrun
        have HC2 : Hid (∀ q, q < k + 1 → ∃ p ∈ upd R k (R k ++ [(.slice (some ⟨gv, 0, none⟩) 512 cv, SK)]) q, p.2 = L1.getD q []) := Lib.hid (fun q hq => by
          by_cases hqk : q = k
          · subst hqk
            rw [upd_self]
            exact ⟨_, List.mem_append_right _ (List.mem_cons_self ..), HSE.out⟩
          · rw [upd_ne _ _ hqk]
            exact HC.out q (by omega))
        have HR2 : Hid (∀ q, q < 8 → (upd R k (R k ++ [(.slice (some ⟨gv, 0, none⟩) 512 cv, SK)]) q).length ≤ k + 1) := Lib.hid (fun q hq => by
          by_cases hqk : q = k
          · subst hqk
            rw [upd_self, List.length_append]
            have := HR.out q hq
            simpa using this
          · rw [upd_ne _ _ hqk]
            have := HR.out q hq
            omega)
        clear hown hkeep hat hw8 hb8 hrun
        obtain ⟨vk, hvk⟩ : ∃ vk, vs k = vk := ⟨_, rfl⟩
        rw [hvk] at ca cb HRUN
        clear hvk
        go_wp2_with (first
          | (rw [HW8.out]; refine wpList_append_run (by rfl) _ _ 46 (by rfl) vk (.slice (some ⟨w6.heap.size, 0, none⟩) 1 1) _ w9 (by rfl) (by rfl) HRUN.out ?_))
        go_roundw
        case rel => exact ⟨k + 1, _, _, by omega, by go_num, { HAD.out with pend := by simp }, HC2.out, HR2.out⟩
        case measure => simp [intOf]; omega
      have hk2 : ¬ (k : Int) < 8 := by omega
      obtain rfl : k = 8 := by omega
      have HCI : Hid (ContI L1 [] R) := Lib.hid (fun i hi => ⟨HC.out i hi, fun o ho => by simp at ho⟩)
      clear HC
      go_wp2_with fail
      go_loopw [80] (fun i wr => ∃ (j : Nat) (O : List (Nat × List UInt8)) (F : Nat → Prop) (vs : Nat → Value) (R : Nat → List (Value × List UInt8)), j ≤ n2 ∧ i = .int .i64 j ∧ LsI w wr D F (st L1 O) M vs R [] ∧ ContI L1 O R ∧ O.length = j ∧ ∀ q, q < 8 → (R q).length ≤ 8 + j) (fun i _ => n2 - (intOf i).toNat)
      case atStart => exact ⟨0, [], F4, vs, R, by omega, rfl, HI6.out, HCI.out, rfl, HR.out⟩
      case round =>
        clear HI6 HCI HR
        obtain ⟨j, O, F, vs, R, hj, rfl, hi, hc, hol, hr⟩ := hrel
        have HI2 := Lib.hid hi
        have HC := Lib.hid hc
        have HOL := Lib.hid hol
        have HR := Lib.hid hr
        clear hi hc hol hr
        by_cases hlt : j < n2
        · have hlt2 : (j : Int) < (n2 : Int) := by omega
          have hjo : j < ops2.length := by have := HN2.out; omega
          obtain ⟨go, off, rfl, hat⟩ := (HO2.out.same HI2.out.same).at (by omega)
          have hat2 := hat j hjo
          have HLS := Lib.hid (sizeLOp ops2[j])
          generalize ops2[j] = x at *
          have HRA := Lib.hid hat2.1
          obtain ⟨BX, hBX⟩ : ∃ BX, filled x.ds = BX := ⟨_, rfl⟩
          have HBL : Hid (BX.length = 512) := Lib.hid (by rw [← hBX]; exact filled_length _)
          have HBX := Lib.hid hBX
          obtain ⟨p, hp⟩ : ∃ p : Nat, x.at' % 8 = (p : Int) := ⟨(x.at' % 8).toNat, by omega⟩
          have HP : Hid (p < L1.length) := Lib.hid (by rw [HL1.out]; omega)
          have hp8 : p < 8 := by omega
          have HP8 : Hid ((p : Int) < 8) := Lib.hid (by omega)
          have EM : Hid (bits BinOp.and IntKind.i64 x.at' 7 = (p : Int)) := Lib.hid (by rw [and_7]; exact hp)
          have em := EM.out
          obtain ⟨w3, hst, hb3, hk3, hs3⟩ := store_lop wr x
          obtain ⟨B3, hB3⟩ : ∃ B3, wr.heap.size = B3 := ⟨_, rfl⟩
          have HFB : Hid (¬ F B3) := Lib.hid (fun e => by have := HI2.out.dk.lt _ e; omega)
          have HVB : Hid (∀ q, q < 8 → (vs q).ownBlock ≠ some B3) := Lib.hid (fun q hq e => by have := ((HI2.out.outer q hq).1.lt _ e).2; omega)
          have HMB : Hid (B3 ≠ M) := Lib.hid (by have := HI2.out.arr.lt; omega)
          rw [hB3] at hst hb3
          have HOB := Lib.hid (show Whole w3 B3 34 x.cells from hb3)
          obtain ⟨d0, d1, d2, d3, d4⟩ := cell_of_five hb3
          have HIN : Hid (x.In w3) := Lib.hid ⟨hat2.2.1.same hk3, hat2.2.2.same hk3⟩
          have HI3 := Lib.hid (HI2.out.keep hk3)
          clear hb3 hk3 hat hat2 hBX hp hs3 HI2
          go_wp2_with (refine wpList_load_mid (by rfl) 34 _ (by rfl) go (off + j * 5) (by rfl) x.cells _ HRA.out Try.underlying34 rfl HLS.out ?_)
          clear hst d0 d1 d2 d3 d4
          (refine (dk_bytes 0 0 x.da none x.ds.length x.dc 0 0 x.ds BX w3 rfl HIN.out.1 HBX.out).mono ?_); rintro e w4 ⟨gz, rfl, ho, hk⟩
          have HI4 := Lib.hid (HI3.out.fresh hk HBL.out ho)
          have HOB4 := Lib.hid (HOB.out.keep hk (fun e => e))
          clear ho hk HI3 HOB HIN
          obtain ⟨d0, d1, d2, d3, d4⟩ := cell_of_five HOB4.out
          have hpend := HI4.out.pend _ (List.mem_cons_self ..)
          go_wp2_with fail
          (refine (dk_write w4 F D (st L1 O) (p : Int) gz 512 BX HI4.out.dk (own_range hpend.1) HBL.out ((hpend.2.2 gz rfl).2.1) (by have := HOL.out; simp [st]; omega)).mono ?_); rintro e wq ⟨FQ, rfl, hd, hkq, hgq⟩
          rw [st_wrote' HP.out] at hd
          have HI5 := Lib.hid (HI4.out.step hd hkq hgq)
          have HOB5 := Lib.hid (HOB4.out.keep hkq HFB.out)
          clear hd hkq hgq HI4 HOB4 hpend d0 d1 d2 d3 d4 em
          obtain ⟨vp, hvp⟩ : ∃ vp, vs p = vp := ⟨_, rfl⟩
          have HVE := Lib.hid hvp
          have HVP := Lib.hid ((HI5.out.outer p hp8).1)
          have hvM := (HI5.out.outer p hp8).2.1
          have hvB := HVB.out p hp8
          rw [hvp] at HVP hvM hvB
          have HCL : Hid (∀ w', Keeps (fun k => vp.ownBlock = some k) wq w' → w'.cell? ⟨B3, 1, none⟩ = some (.int .i64 x.at')) := Lib.hid (fun w' k => (cell_of_five (HOB5.out.keep k hvB)).2.1)
          have HCM : Hid (∀ w', Keeps (fun k => vp.ownBlock = some k) wq w' → w'.cell? ⟨M, p, none⟩ = some vp) := Lib.hid (fun w' k => (HI5.out.arr.keep k hvM).cell (i := p) (by simp [hp8, hvp]))
          have HFM : Hid (∀ w', Keeps (fun k => vp.ownBlock = some k) wq w' → w'.frozen? ⟨M, p, none⟩ = false) := Lib.hid (fun w' k => (HI5.out.arr.keep k hvM).free p)
          have HRL : Hid ((R p).length ≤ 100000) := Lib.hid (by have := HR.out p hp8; omega)
          have HBW : Hid (w.heap.size ≤ wq.heap.size) := Lib.hid HI5.out.same.size
          clear hvp hvM hvB
          go_wp2_with fail
          refine wp_region_hand [[], [0], [1], [], [3], [4], [5], [6], [], [8], [7, 9], [2, 0, 1, 2, 3, 4, 5, 6, 7, 8, 9, 10], [11, 10, 10, 0, 1, 2, 3, 4, 5, 6, 7, 8, 9, 10]]
            [some 94, some 95, some 96, some 97, some 98, some 99, some 100, some 101, some 102, some 103, some 104, some 105, none]
            [.is (.pointer (some ⟨B3, 1, none⟩)), .is (.int .i64 x.at'), .is (.int .i64 (p : Nat)), .is (.pointer (some ⟨B3, 1, none⟩)), .is (.int .i64 x.at'), .is (.int .i64 (p : Nat)), .is (.pointer (some ⟨M, p, none⟩)), .is (vp), .is (.slice (some ⟨gz, 0, none⟩) 512 512), .lit 31 #[.slice (some ⟨gz, 0, none⟩) 512 512]]
            (fun k => vp.ownBlock = some k) [10] (MayE w vp (R p).length ((R p).map Prod.fst) (.slice (some ⟨gz, 0, none⟩) 512 512) wq.heap.size) 27 _ _ 163 11 13 (by kernel_rfl) (by rfl) (by rfl) (by omega) (by kernel_rfl) (by kernel_rfl) (by decide) (by decide) (fun k e => (HVP.out.lt k e).2) HVP.out MayE.same ?_ ?_
          · refine ⟨?_, ?_, ?_, ?_, ?_, ?_, ?_, ?_, ?_, ?_, ?_, trivial⟩
            · intro a w' K hk hdep hfr hK
              have f16 := hfr 16 (by decide)
              exact plan_do (by rfl) (plan_yield (i := 0) (V := fun _ _ v => v = (.pointer (some ⟨B3, 1, none⟩) : Value)) (.pointer (some ⟨B3, 1, none⟩)) (by go_simp) rfl hK)
            · intro a w' K hk hdep hfr hK
              have e94 : a.tmps[94]?.getD undef = (.pointer (some ⟨B3, 1, none⟩)) := hdep 0 (by decide) 94 rfl
              have cl := HCL.out w' hk
              exact plan_do (by rfl) (plan_yield (i := 1) (V := fun _ _ v => v = (.int .i64 x.at' : Value)) (.int .i64 x.at') (by go_simp) rfl hK)
            · intro a w' K hk hdep hfr hK
              have e95 : a.tmps[95]?.getD undef = (.int .i64 x.at') := hdep 1 (by decide) 95 rfl
              have em := EM.out
              exact plan_do (by rfl) (plan_yield (i := 2) (V := fun _ _ v => v = (.int .i64 (p : Nat) : Value)) (.int .i64 (p : Nat)) (by go_simp) rfl hK)
            · intro a w' K hk hdep hfr hK
              have f16 := hfr 16 (by decide)
              exact plan_do (by rfl) (plan_yield (i := 3) (V := fun _ _ v => v = (.pointer (some ⟨B3, 1, none⟩) : Value)) (.pointer (some ⟨B3, 1, none⟩)) (by go_simp) rfl hK)
            · intro a w' K hk hdep hfr hK
              have e97 : a.tmps[97]?.getD undef = (.pointer (some ⟨B3, 1, none⟩)) := hdep 3 (by decide) 97 rfl
              have cl := HCL.out w' hk
              exact plan_do (by rfl) (plan_yield (i := 4) (V := fun _ _ v => v = (.int .i64 x.at' : Value)) (.int .i64 x.at') (by go_simp) rfl hK)
            · intro a w' K hk hdep hfr hK
              have e98 : a.tmps[98]?.getD undef = (.int .i64 x.at') := hdep 4 (by decide) 98 rfl
              have em := EM.out
              exact plan_do (by rfl) (plan_yield (i := 5) (V := fun _ _ v => v = (.int .i64 (p : Nat) : Value)) (.int .i64 (p : Nat)) (by go_simp) rfl hK)
            · intro a w' K hk hdep hfr hK
              have f11 := hfr 11 (by decide)
              have e99 : a.tmps[99]?.getD undef = (.int .i64 (p : Nat)) := hdep 5 (by decide) 99 rfl
              have hp8 := HP8.out
              exact plan_do (by rfl) (plan_yield (i := 6) (V := fun _ _ v => v = (.pointer (some ⟨M, p, none⟩) : Value)) (.pointer (some ⟨M, p, none⟩)) (by go_simp) rfl hK)
            · intro a w' K hk hdep hfr hK
              have e100 : a.tmps[100]?.getD undef = (.pointer (some ⟨M, p, none⟩)) := hdep 6 (by decide) 100 rfl
              have cm := HCM.out w' hk
              exact plan_do (by rfl) (plan_yield (i := 7) (V := fun _ _ v => v = (vp : Value)) (vp) (by go_simp) rfl hK)
            · intro a w' K hk hdep hfr hK
              have f17 := hfr 17 (by decide)
              exact plan_do (by rfl) (plan_yield (i := 8) (V := fun _ _ v => v = (.slice (some ⟨gz, 0, none⟩) 512 512 : Value)) (.slice (some ⟨gz, 0, none⟩) 512 512) (by go_simp) rfl hK)
            · intro a w' K hk hdep hfr hK
              have e102 : a.tmps[102]?.getD undef = (.slice (some ⟨gz, 0, none⟩) 512 512) := hdep 8 (by decide) 102 rfl
              exact plan_do (by rfl) (plan_go (.slice (some ⟨w'.heap.size, 0, none⟩) 1 1) (w'.alloc (.cells #[.slice (some ⟨gz, 0, none⟩) 512 512] 31)) (by go_simp) (hK _ _ ((Keeps.refl _ _).alloc _) ⟨w'.heap.size, rfl, hk.size, heap_alloc_new w' _⟩))
            · intro a w' K hk hdep hfr ev hE hev hK
              have e101 : a.tmps[101]?.getD undef = (vp) := hdep 7 (by decide) 101 rfl
              obtain ⟨G, e103, hG, hlit⟩ : ∃ G, a.tmps[103]?.getD undef = .slice (some ⟨G, 0, none⟩) 1 1 ∧ wq.heap.size ≤ G ∧ w'.heap[G]? = some (.cells #[.slice (some ⟨gz, 0, none⟩) 512 512] 31 (0, 0)) := hdep 9 (by decide) 103 rfl
              obtain ⟨g, cp, w2, hrun, hown, hkeep, hat⟩ := row_append w w' vp (R p).length ((R p).map Prod.fst) hE (.slice (some ⟨gz, 0, none⟩) 512 512) G (by rw [cell_of_row _ _ _ _ _ _ hlit]; rfl) rfl HRL.out (by have := HBW.out; have := hk.size; omega)
              refine step_append_run (by rfl) (.tmp 101) (.tmp 103) 46 (by rfl) vp (.slice (some ⟨G, 0, none⟩) 1 1) _ w2 ((eval_tmp _ _).trans e101) ((eval_tmp _ _).trans e103) hrun ?_
              refine hK _ _ hkeep ⟨g, cp, rfl, hown, ?_⟩ trivial
              rcases hat with hat | hat
              · exact .inl hat
              · right; have := hk.size; omega
          intro a wz hk hdef hsz hv hfr ev hE1 hev
          have e104 := hev 0 104 rfl rfl
          have e96 : a.tmps[96]?.getD undef = .int .i64 (p : Nat) := hv 2 96 (by omega) rfl
          obtain ⟨g, cp, rfl, hown, hat⟩ := hE1
          have he := act_eq a _ [some 94, some 95, some 96, some 97, some 98, some 99, some 100, some 101, some 102, some 103, some 104] 163 rfl hsz hdef hfr (fun d => a.tmps[d]?.getD undef) (fun _ _ => rfl)
          obtain ⟨v94, h94⟩ : ∃ v, a.tmps[94]?.getD undef = v := ⟨_, rfl⟩
          obtain ⟨v95, h95⟩ : ∃ v, a.tmps[95]?.getD undef = v := ⟨_, rfl⟩
          obtain ⟨v97, h97⟩ : ∃ v, a.tmps[97]?.getD undef = v := ⟨_, rfl⟩
          obtain ⟨v98, h98⟩ : ∃ v, a.tmps[98]?.getD undef = v := ⟨_, rfl⟩
          obtain ⟨v99, h99⟩ : ∃ v, a.tmps[99]?.getD undef = v := ⟨_, rfl⟩
          obtain ⟨v100, h100⟩ : ∃ v, a.tmps[100]?.getD undef = v := ⟨_, rfl⟩
          obtain ⟨v101, h101⟩ : ∃ v, a.tmps[101]?.getD undef = v := ⟨_, rfl⟩
          obtain ⟨v102, h102⟩ : ∃ v, a.tmps[102]?.getD undef = v := ⟨_, rfl⟩
          obtain ⟨v103, h103⟩ : ∃ v, a.tmps[103]?.getD undef = v := ⟨_, rfl⟩
          simp only [putAll, h94, h95, h97, h98, h99, h100, h101, h102, h103, e96, e104, List.setIfInBounds_toArray, List.set_cons_zero, List.set_cons_succ] at he
          clear h94 h95 h97 h98 h99 h100 h101 h102 h103 e96 e104 hdef hsz hv hfr hev
          subst he
          have HAD := Lib.hid (HI5.out.add p hp8 (.slice (some ⟨gz, 0, none⟩) 512 512, BX) (HI5.out.pend _ (List.mem_cons_self ..)) wz (by rw [HVE.out]; exact hk) _ hown g rfl (by rw [HVE.out]; exact hat))
          have cm := HCM.out wz hk
          have fm := HFM.out wz hk
          have hp8i := HP8.out
          have HC2 := Lib.hid (HC.out.add p (.slice (some ⟨gz, 0, none⟩) 512 512) BX)
          have HO2' : Hid ((O ++ [(p, BX)]).length = j + 1) := Lib.hid (by rw [List.length_append, HOL.out]; rfl)
          have HR2 : Hid (∀ q, q < 8 → (upd R p (R p ++ [(.slice (some ⟨gz, 0, none⟩) 512 512, BX)]) q).length ≤ 8 + (j + 1)) := Lib.hid (fun q hq => by
            by_cases hqk : q = p
            · subst hqk
              rw [upd_self, List.length_append]
              have := HR.out q hq
              simp; omega
            · rw [upd_ne _ _ hqk]
              have := HR.out q hq
              omega)
          clear hown hk hat
          go_wp2
          go_roundw
          case rel => exact ⟨j + 1, _, FQ, _, _, by omega, by go_num, { HAD.out with pend := by simp }, HC2.out, HO2'.out, HR2.out⟩
          case measure => simp [intOf]; omega
        have hlt2 : ¬ (j : Int) < (n2 : Int) := by omega
        go_wp2_with fail
        (refine (dk_crash wr F D (st L1 O) fo nf fc fs HI2.out.dk (by have := HL1.out; simp [st]; omega) (by have := HOL.out; simp [st]; omega) HNF.out (HF.out.same HI2.out.same)).mono ?_); rintro e wx ⟨X, FX, rfl, hx, hkx, _⟩
        rw [st_crashed] at hx
        obtain ⟨LC, hLC⟩ : ∃ LC, (O.zip fs).foldl fated L1 = LC := ⟨_, rfl⟩
        have HLC : Hid (LC.length = 8) := Lib.hid (by rw [← hLC, folded_len]; exact HL1.out)
        have HHIT : Hid (∀ i, i < 8 → ∀ k, ∃ p ∈ R i, p.2.getD k 0 = (LC.getD i []).getD k 0) := Lib.hid (fun i hi k => by
          obtain ⟨lv, ov, hd, _⟩ := HI2.out.dk
          rcases fated_bytes i k (O.zip fs) L1 hd.sec (fun q hq => hd.wr q.1 (List.of_mem_zip (a := q.1) (b := q.2) hq).1) with h | ⟨q, hq, h1, h2⟩
          · obtain ⟨p, hp, he⟩ := (HC.out i hi).1
            exact ⟨p, hp, by rw [he, ← hLC, h]⟩
          · obtain ⟨p, hp, he⟩ := (HC.out i hi).2 q.1 (List.of_mem_zip (a := q.1) (b := q.2) hq).1 h1
            exact ⟨p, hp, by rw [he, ← hLC]; exact h2⟩)
        rw [hLC] at hx
        have HX := Lib.hid hx
        have HI3 := Lib.hid (HI2.out.keep hkx)
        have HRL : Hid (∀ q, q < 8 → (R q).length ≤ 2000) := Lib.hid (fun q hq => by have := HR.out q hq; omega)
        have HPOS : Hid (∀ q, q < 8 → 0 < (R q).length) := Lib.hid (fun q hq => by
          obtain ⟨p, hp, _⟩ := HHIT.out q hq 0
          exact List.length_pos_of_mem hp)
        clear hx hkx hLC HI2 HC HR hlt2
        go_wp2_with fail
        go_loopw [112] (fun i wr => ∃ k : Nat, k ≤ 8 ∧ i = .int .i64 k ∧ LsI w wr D F (st L1 O) M vs R [] ∧ Dk FX wr X (st LC [])) (fun i _ => 8 - (intOf i).toNat)
        case atStart => exact ⟨0, by omega, rfl, HI3.out, HX.out⟩
        case round =>
          clear HX HI3
          obtain ⟨k, hk8, rfl, hi, hx⟩ := hrel
          have HI3 := Lib.hid hi
          have HX := Lib.hid hx
          clear hi hx
          by_cases hk : k < 8
          · have hk2 : (k : Int) < 8 := by omega
            have HKL : Hid (k < LC.length) := Lib.hid (by rw [HLC.out]; exact hk)
            have HSL : Hid ((seenAt LC [] k).length = 512) := Lib.hid (HX.out.seen_len HKL.out)
            have HSE : Hid (seenAt LC [] k = LC.getD k []) := Lib.hid rfl
            generalize seenAt LC [] k = S at *
            go_wp2_with fail
            (refine (st_read _ X FX LC [] k HX.out HKL.out (by decide)).mono ?_); rintro e w6 ⟨v, rfl, ho, hkr⟩
            rw [show seenAt LC [] k = S from HSE.out.symm] at ho
            obtain ⟨gs, cs, rfl, _⟩ := ho.form (by decide)
            have HI7 := Lib.hid (HI3.out.keep hkr)
            have HX7 := Lib.hid (HX.out.same hkr)
            have HS7 := Lib.hid (own_base ho (Nat.zero_le _))
            clear ho hkr HI3 HX
            obtain ⟨gi, ci, hvi, _⟩ := (HI7.out.outer k hk).1.form (HPOS.out k hk)
            have hn2000 := HRL.out k hk
            obtain ⟨n, hnn⟩ : ∃ n, (R k).length = n := ⟨_, rfl⟩
            have HNN := Lib.hid hnn
            rw [hnn] at hvi hn2000
            have HCM : Hid (∀ w', Same w6 w' → w'.cell? ⟨M, k, none⟩ = some (.slice (some ⟨gi, 0, none⟩) n ci)) := Lib.hid (fun w' kk => (HI7.out.keep kk).arr.cell (i := k) (by simp [hk, hvi]))
            have HCI : Hid (∀ w', Same w6 w' → ∀ q (hq : q < (R k).length), w'.cell? ⟨gi, q, none⟩ = some (R k)[q].1) := Lib.hid (fun w' kk q hq => by
              have h := ((HI7.out.keep kk).outer k hk).1.cells (g := gi) (by rw [hvi]; rfl) q (R k)[q].1 (by simp [hq])
              have hadd : (⟨gi, 0, none⟩ : Addr).add q = ⟨gi, q, none⟩ := by unfold Addr.add; split <;> simp_all
              rwa [hadd] at h)
            have HCS : Hid (∀ w', Same w6 w' → ∀ t, t < 512 → w'.cell? ⟨gs, t, none⟩ = some (.int .u8 ((S.getD t 0).toNat : Int))) := Lib.hid (fun w' kk t ht => (own_cell (own_keeps kk HS7.out (fun _ _ e => e)) t ht).1)
            clear hnn hvi
            go_wp2_with fail
            go_loopw [130] (fun i wr => ∃ t : Nat, t ≤ 512 ∧ i = .int .i64 t ∧ Same w6 wr) (fun i _ => 512 - (intOf i).toNat)
            case atStart => exact ⟨0, by omega, rfl, Keeps.refl _ _⟩
            case round =>
              obtain ⟨t, ht, rfl, hs⟩ := hrel
              by_cases htl : t < 512
              · have ht2 : (t : Int) < 512 := by omega
                have HS := Lib.hid hs
                have cm := HCM.out _ hs
                clear hs
                go_wp2_with fail
                go_loopw [23, 137] (fun fv i wr => ∃ (q : Nat) (fb : Bool), q ≤ n ∧ i = .int .i64 q ∧ fv = .bool fb ∧ Same w6 wr ∧ ∀ a, a < q → ∀ (h : a < (R k).length), (R k)[a].2.getD t 0 = S.getD t 0 → fb = true) (fun _ i _ => n - (intOf i).toNat)
                case atStart => exact ⟨0, false, by omega, rfl, rfl, HS.out, by omega⟩
                case round =>
                  clear cm
                  obtain ⟨q, fb, hqn, rfl, rfl, hs, hh⟩ := hrel
                  have HS2 := Lib.hid hs
                  have HH := Lib.hid hh
                  clear hh
                  by_cases hq : q < n
                  · have hq2 : (q : Int) < (n : Int) := by omega
                    have HQR : q < (R k).length := by have := HNN.out; omega
                    have ci' := HCI.out _ hs q HQR
                    have hro := (HI7.out.keep hs).rows k hk (R k)[q] (List.getElem_mem HQR)
                    have HNX : Hid (∀ fb' : Bool, (fb = true → fb' = true) → ((R k)[q].2.getD t 0 = S.getD t 0 → fb' = true) → ∀ a, a < q + 1 → ∀ (h : a < (R k).length), (R k)[a].2.getD t 0 = S.getD t 0 → fb' = true) := Lib.hid (fun fb' h1 h2 a ha h e => by
                      by_cases haq : a = q
                      · subst haq; exact h2 e
                      · exact h1 (HH.out a (by omega) h e))
                    generalize (R k)[q] = pr at *
                    obtain ⟨pv, pb⟩ := pr
                    obtain ⟨gr, cr, hpv, _⟩ := hro.1.form (by decide)
                    simp only at hpv
                    subst hpv
                    have HCR : Hid (∀ w', Same wr w' → w'.cell? ⟨gr, t, none⟩ = some (.int .u8 ((pb.getD t 0).toNat : Int))) := Lib.hid (fun w' kk => (own_cell (own_keeps kk hro.1 (fun _ _ e => e)) t htl).1)
                    have HCT : Hid (∀ w', Same wr w' → w'.cell? ⟨gs, t, none⟩ = some (.int .u8 ((S.getD t 0).toNat : Int))) := Lib.hid (fun w' kk => HCS.out w' (HS2.out.trans kk (fun _ _ e => e)) t htl)
                    simp only at ci'
                    clear hro hs
                    cases fb with
                    | true =>
                      go_wp2_with fail
                      refine wp_region_hand [[], [0], [1], [2, 1], [3, 1], [4, 1, 1], [5], [5], [6, 7, 5], [8, 5], [5], [5], [10, 11, 5], [12, 5], [9, 13, 5], [5, 14, 1], [1, 15], [16, 5, 0, 1, 2, 3, 4, 5, 6, 7, 8, 9, 10, 11, 12, 13, 14, 15, 16]]
                        [some 141, some 142, some 143, some 144, some 145, some 146, some 147, some 148, some 149, some 150, some 151, some 152, some 153, some 154, some 155, some 156, some 157, some 23]
                        [.is (.bool true), .is (.bool true), .is (undef), .is (undef), .is (undef), .is (undef), .is (undef), .is (undef), .is (undef), .is (undef), .is (undef), .is (undef), .is (undef), .is (undef), .is (undef), .is (undef), .is (.bool true)]
                        (fun _ => False) [] (fun _ _ _ => True) 45 _ _ 163 17 18 (by kernel_rfl) (by rfl) (by rfl) (by omega) (by kernel_rfl) (by kernel_rfl) (by decide) (by decide) (fun _ e => e.elim) trivial (fun _ _ _ _ h _ => h) ?_ ?_
                      · refine ⟨?_, ?_, ?_, ?_, ?_, ?_, ?_, ?_, ?_, ?_, ?_, ?_, ?_, ?_, ?_, ?_, ?_, trivial⟩
                        · intro a w' K hs' hdep hfr hK
                          have f23 := hfr 23 (by decide)
                          exact plan_do (by rfl) (plan_yield (i := 0) (V := fun _ _ v => v = (.bool true : Value)) (.bool true) (by go_simp) rfl hK)
                        · intro a w' K hs' hdep hfr hK
                          have e141 : a.tmps[141]?.getD undef = (.bool true) := hdep 0 (by decide) 141 rfl
                          exact plan_do (by rfl) (plan_yield (i := 1) (V := fun _ _ v => v = (.bool true : Value)) (.bool true) (by go_simp) rfl hK)
                        · intro a w' K hs' hdep hfr hK
                          have e142 : a.tmps[142]?.getD undef = (.bool true) := hdep 1 (by decide) 142 rfl
                          exact plan_skip (unwanted_not 1 142 false rfl rfl e142) (hK undef w' (Keeps.refl _ _) rfl)
                        · intro a w' K hs' hdep hfr hK
                          have e143 : a.tmps[143]?.getD undef = (undef) := hdep 2 (by decide) 143 rfl
                          have e142 : a.tmps[142]?.getD undef = (.bool true) := hdep 1 (by decide) 142 rfl
                          exact plan_skip (unwanted_not 1 142 false rfl rfl e142) (hK undef w' (Keeps.refl _ _) rfl)
                        · intro a w' K hs' hdep hfr hK
                          have e144 : a.tmps[144]?.getD undef = (undef) := hdep 3 (by decide) 144 rfl
                          have e142 : a.tmps[142]?.getD undef = (.bool true) := hdep 1 (by decide) 142 rfl
                          exact plan_skip (unwanted_not 1 142 false rfl rfl e142) (hK undef w' (Keeps.refl _ _) rfl)
                        · intro a w' K hs' hdep hfr hK
                          have e145 : a.tmps[145]?.getD undef = (undef) := hdep 4 (by decide) 145 rfl
                          have e142 : a.tmps[142]?.getD undef = (.bool true) := hdep 1 (by decide) 142 rfl
                          exact plan_skip (unwanted_not 1 142 false rfl rfl e142) (hK undef w' (Keeps.refl _ _) rfl)
                        · intro a w' K hs' hdep hfr hK
                          have e146 : a.tmps[146]?.getD undef = (undef) := hdep 5 (by decide) 146 rfl
                          exact plan_skip (unwanted_undef 5 146 true rfl rfl e146) (hK undef w' (Keeps.refl _ _) rfl)
                        · intro a w' K hs' hdep hfr hK
                          have e146 : a.tmps[146]?.getD undef = (undef) := hdep 5 (by decide) 146 rfl
                          exact plan_skip (unwanted_undef 5 146 true rfl rfl e146) (hK undef w' (Keeps.refl _ _) rfl)
                        · intro a w' K hs' hdep hfr hK
                          have e147 : a.tmps[147]?.getD undef = (undef) := hdep 6 (by decide) 147 rfl
                          have e148 : a.tmps[148]?.getD undef = (undef) := hdep 7 (by decide) 148 rfl
                          have e146 : a.tmps[146]?.getD undef = (undef) := hdep 5 (by decide) 146 rfl
                          exact plan_skip (unwanted_undef 5 146 true rfl rfl e146) (hK undef w' (Keeps.refl _ _) rfl)
                        · intro a w' K hs' hdep hfr hK
                          have e149 : a.tmps[149]?.getD undef = (undef) := hdep 8 (by decide) 149 rfl
                          have e146 : a.tmps[146]?.getD undef = (undef) := hdep 5 (by decide) 146 rfl
                          exact plan_skip (unwanted_undef 5 146 true rfl rfl e146) (hK undef w' (Keeps.refl _ _) rfl)
                        · intro a w' K hs' hdep hfr hK
                          have e146 : a.tmps[146]?.getD undef = (undef) := hdep 5 (by decide) 146 rfl
                          exact plan_skip (unwanted_undef 5 146 true rfl rfl e146) (hK undef w' (Keeps.refl _ _) rfl)
                        · intro a w' K hs' hdep hfr hK
                          have e146 : a.tmps[146]?.getD undef = (undef) := hdep 5 (by decide) 146 rfl
                          exact plan_skip (unwanted_undef 5 146 true rfl rfl e146) (hK undef w' (Keeps.refl _ _) rfl)
                        · intro a w' K hs' hdep hfr hK
                          have e151 : a.tmps[151]?.getD undef = (undef) := hdep 10 (by decide) 151 rfl
                          have e152 : a.tmps[152]?.getD undef = (undef) := hdep 11 (by decide) 152 rfl
                          have e146 : a.tmps[146]?.getD undef = (undef) := hdep 5 (by decide) 146 rfl
                          exact plan_skip (unwanted_undef 5 146 true rfl rfl e146) (hK undef w' (Keeps.refl _ _) rfl)
                        · intro a w' K hs' hdep hfr hK
                          have e153 : a.tmps[153]?.getD undef = (undef) := hdep 12 (by decide) 153 rfl
                          have e146 : a.tmps[146]?.getD undef = (undef) := hdep 5 (by decide) 146 rfl
                          exact plan_skip (unwanted_undef 5 146 true rfl rfl e146) (hK undef w' (Keeps.refl _ _) rfl)
                        · intro a w' K hs' hdep hfr hK
                          have e150 : a.tmps[150]?.getD undef = (undef) := hdep 9 (by decide) 150 rfl
                          have e154 : a.tmps[154]?.getD undef = (undef) := hdep 13 (by decide) 154 rfl
                          have e146 : a.tmps[146]?.getD undef = (undef) := hdep 5 (by decide) 146 rfl
                          exact plan_skip (unwanted_undef 5 146 true rfl rfl e146) (hK undef w' (Keeps.refl _ _) rfl)
                        · intro a w' K hs' hdep hfr hK
                          have e146 : a.tmps[146]?.getD undef = (undef) := hdep 5 (by decide) 146 rfl
                          have e155 : a.tmps[155]?.getD undef = (undef) := hdep 14 (by decide) 155 rfl
                          have e142 : a.tmps[142]?.getD undef = (.bool true) := hdep 1 (by decide) 142 rfl
                          exact plan_skip (unwanted_not 1 142 false rfl rfl e142) (hK undef w' (Keeps.refl _ _) rfl)
                        · intro a w' K hs' hdep hfr hK
                          have e142 : a.tmps[142]?.getD undef = (.bool true) := hdep 1 (by decide) 142 rfl
                          have e156 : a.tmps[156]?.getD undef = (undef) := hdep 15 (by decide) 156 rfl
                          exact plan_do (by rfl) (plan_yield (i := 16) (V := fun _ _ v => v = (.bool true : Value)) (.bool true) (by go_simp) rfl hK)
                      intro a w9 hk9 hdef hsz hv hfr ev _ _
                      have e157 : a.tmps[157]?.getD undef = (.bool true) := hv 16 157 (by omega) rfl
                      have he := act_eq a _ [some 141, some 142, some 143, some 144, some 145, some 146, some 147, some 148, some 149, some 150, some 151, some 152, some 153, some 154, some 155, some 156, some 157] 163 rfl hsz hdef hfr (fun d => a.tmps[d]?.getD undef) (fun _ _ => rfl)
                      obtain ⟨v141, h141⟩ : ∃ v, a.tmps[141]?.getD undef = v := ⟨_, rfl⟩
                      obtain ⟨v142, h142⟩ : ∃ v, a.tmps[142]?.getD undef = v := ⟨_, rfl⟩
                      obtain ⟨v143, h143⟩ : ∃ v, a.tmps[143]?.getD undef = v := ⟨_, rfl⟩
                      obtain ⟨v144, h144⟩ : ∃ v, a.tmps[144]?.getD undef = v := ⟨_, rfl⟩
                      obtain ⟨v145, h145⟩ : ∃ v, a.tmps[145]?.getD undef = v := ⟨_, rfl⟩
                      obtain ⟨v146, h146⟩ : ∃ v, a.tmps[146]?.getD undef = v := ⟨_, rfl⟩
                      obtain ⟨v147, h147⟩ : ∃ v, a.tmps[147]?.getD undef = v := ⟨_, rfl⟩
                      obtain ⟨v148, h148⟩ : ∃ v, a.tmps[148]?.getD undef = v := ⟨_, rfl⟩
                      obtain ⟨v149, h149⟩ : ∃ v, a.tmps[149]?.getD undef = v := ⟨_, rfl⟩
                      obtain ⟨v150, h150⟩ : ∃ v, a.tmps[150]?.getD undef = v := ⟨_, rfl⟩
                      obtain ⟨v151, h151⟩ : ∃ v, a.tmps[151]?.getD undef = v := ⟨_, rfl⟩
                      obtain ⟨v152, h152⟩ : ∃ v, a.tmps[152]?.getD undef = v := ⟨_, rfl⟩
                      obtain ⟨v153, h153⟩ : ∃ v, a.tmps[153]?.getD undef = v := ⟨_, rfl⟩
                      obtain ⟨v154, h154⟩ : ∃ v, a.tmps[154]?.getD undef = v := ⟨_, rfl⟩
                      obtain ⟨v155, h155⟩ : ∃ v, a.tmps[155]?.getD undef = v := ⟨_, rfl⟩
                      obtain ⟨v156, h156⟩ : ∃ v, a.tmps[156]?.getD undef = v := ⟨_, rfl⟩
                      simp only [putAll, h141, h142, h143, h144, h145, h146, h147, h148, h149, h150, h151, h152, h153, h154, h155, h156, e157, List.setIfInBounds_toArray, List.set_cons_zero, List.set_cons_succ] at he
                      clear h141 h142 h143 h144 h145 h146 h147 h148 h149 h150 h151 h152 h153 h154 h155 h156 e157 hdef hsz hv hfr
                      subst he
                      have HS3 := Lib.hid (HS2.out.trans hk9 (fun _ _ e => e))
                      have HNY := Lib.hid (HNX.out true (fun _ => rfl) (fun _ => rfl))
                      clear hk9 ci'
                      go_wp2
                      go_roundw
                      case rel => exact ⟨q + 1, true, by omega, by go_num, rfl, HS3.out, HNY.out⟩
                      case measure => simp [intOf]; omega
                    | false =>
                      obtain ⟨hit, hhit⟩ : ∃ hit : Bool, (((pb.getD t 0).toNat : Int) == ((S.getD t 0).toNat : Int)) = hit := ⟨_, rfl⟩
                      have HNY := Lib.hid (HNX.out hit (fun e => by simp at e) (fun e => by rw [← hhit]; simp only at e; rw [e]; simp))
                      have HHI := Lib.hid hhit
                      clear hhit
                      generalize pb.getD t 0 = ub at *
                      generalize S.getD t 0 = us at *
                      go_wp2_with fail
                      refine wp_region_hand [[], [0], [1], [2, 1], [3, 1], [4, 1, 1], [5], [5], [6, 7, 5], [8, 5], [5], [5], [10, 11, 5], [12, 5], [9, 13, 5], [5, 14, 1], [1, 15], [16, 5, 0, 1, 2, 3, 4, 5, 6, 7, 8, 9, 10, 11, 12, 13, 14, 15, 16]]
                        [some 141, some 142, some 143, some 144, some 145, some 146, some 147, some 148, some 149, some 150, some 151, some 152, some 153, some 154, some 155, some 156, some 157, some 23]
                        [.is (.bool false), .is (.bool false), .is (.slice (some ⟨gr, 0, none⟩) 512 cr), .is (.int .i64 512), .is (.bool true), .is (.bool true), .is (.slice (some ⟨gr, 0, none⟩) 512 cr), .is (.int .i64 (t : Nat)), .is (.pointer (some ⟨gr, t, none⟩)), .is (.int .u8 (ub.toNat : Int)), .is (.slice (some ⟨gs, 0, none⟩) 512 cs), .is (.int .i64 (t : Nat)), .is (.pointer (some ⟨gs, t, none⟩)), .is (.int .u8 (us.toNat : Int)), .is (.bool hit), .is (.bool hit), .is (.bool hit)]
                        (fun _ => False) [] (fun _ _ _ => True) 45 _ _ 163 17 18 (by kernel_rfl) (by rfl) (by rfl) (by omega) (by kernel_rfl) (by kernel_rfl) (by decide) (by decide) (fun _ e => e.elim) trivial (fun _ _ _ _ h _ => h) ?_ ?_
                      · refine ⟨?_, ?_, ?_, ?_, ?_, ?_, ?_, ?_, ?_, ?_, ?_, ?_, ?_, ?_, ?_, ?_, ?_, trivial⟩
                        · intro a w' K hs' hdep hfr hK
                          have f23 := hfr 23 (by decide)
                          exact plan_do (by rfl) (plan_yield (i := 0) (V := fun _ _ v => v = (.bool false : Value)) (.bool false) (by go_simp) rfl hK)
                        · intro a w' K hs' hdep hfr hK
                          have e141 : a.tmps[141]?.getD undef = (.bool false) := hdep 0 (by decide) 141 rfl
                          exact plan_do (by rfl) (plan_yield (i := 1) (V := fun _ _ v => v = (.bool false : Value)) (.bool false) (by go_simp) rfl hK)
                        · intro a w' K hs' hdep hfr hK
                          have e142 : a.tmps[142]?.getD undef = (.bool false) := hdep 1 (by decide) 142 rfl
                          have f25 := hfr 25 (by decide)
                          exact plan_do (wanted_of 1 142 false rfl rfl e142) (plan_yield (i := 2) (V := fun _ _ v => v = (.slice (some ⟨gr, 0, none⟩) 512 cr : Value)) (.slice (some ⟨gr, 0, none⟩) 512 cr) (by go_simp) rfl hK)
                        · intro a w' K hs' hdep hfr hK
                          have e143 : a.tmps[143]?.getD undef = (.slice (some ⟨gr, 0, none⟩) 512 cr) := hdep 2 (by decide) 143 rfl
                          have e142 : a.tmps[142]?.getD undef = (.bool false) := hdep 1 (by decide) 142 rfl
                          exact plan_do (wanted_of 1 142 false rfl rfl e142) (plan_yield (i := 3) (V := fun _ _ v => v = (.int .i64 512 : Value)) (.int .i64 512) (by go_simp) rfl hK)
                        · intro a w' K hs' hdep hfr hK
                          have e144 : a.tmps[144]?.getD undef = (.int .i64 512) := hdep 3 (by decide) 144 rfl
                          have e142 : a.tmps[142]?.getD undef = (.bool false) := hdep 1 (by decide) 142 rfl
                          exact plan_do (wanted_of 1 142 false rfl rfl e142) (plan_yield (i := 4) (V := fun _ _ v => v = (.bool true : Value)) (.bool true) (by go_simp) rfl hK)
                        · intro a w' K hs' hdep hfr hK
                          have e145 : a.tmps[145]?.getD undef = (.bool true) := hdep 4 (by decide) 145 rfl
                          have e142 : a.tmps[142]?.getD undef = (.bool false) := hdep 1 (by decide) 142 rfl
                          exact plan_do (wanted_of 1 142 false rfl rfl e142) (plan_yield (i := 5) (V := fun _ _ v => v = (.bool true : Value)) (.bool true) (by go_simp) rfl hK)
                        · intro a w' K hs' hdep hfr hK
                          have e146 : a.tmps[146]?.getD undef = (.bool true) := hdep 5 (by decide) 146 rfl
                          have f25 := hfr 25 (by decide)
                          exact plan_do (wanted_of 5 146 true rfl rfl e146) (plan_yield (i := 6) (V := fun _ _ v => v = (.slice (some ⟨gr, 0, none⟩) 512 cr : Value)) (.slice (some ⟨gr, 0, none⟩) 512 cr) (by go_simp) rfl hK)
                        · intro a w' K hs' hdep hfr hK
                          have e146 : a.tmps[146]?.getD undef = (.bool true) := hdep 5 (by decide) 146 rfl
                          have f22 := hfr 22 (by decide)
                          exact plan_do (wanted_of 5 146 true rfl rfl e146) (plan_yield (i := 7) (V := fun _ _ v => v = (.int .i64 (t : Nat) : Value)) (.int .i64 (t : Nat)) (by go_simp) rfl hK)
                        · intro a w' K hs' hdep hfr hK
                          have e147 : a.tmps[147]?.getD undef = (.slice (some ⟨gr, 0, none⟩) 512 cr) := hdep 6 (by decide) 147 rfl
                          have e148 : a.tmps[148]?.getD undef = (.int .i64 (t : Nat)) := hdep 7 (by decide) 148 rfl
                          have e146 : a.tmps[146]?.getD undef = (.bool true) := hdep 5 (by decide) 146 rfl
                          exact plan_do (wanted_of 5 146 true rfl rfl e146) (plan_yield (i := 8) (V := fun _ _ v => v = (.pointer (some ⟨gr, t, none⟩) : Value)) (.pointer (some ⟨gr, t, none⟩)) (by go_simp) rfl hK)
                        · intro a w' K hs' hdep hfr hK
                          have e149 : a.tmps[149]?.getD undef = (.pointer (some ⟨gr, t, none⟩)) := hdep 8 (by decide) 149 rfl
                          have e146 : a.tmps[146]?.getD undef = (.bool true) := hdep 5 (by decide) 146 rfl
                          have cl := HCR.out w' hs'
                          exact plan_do (wanted_of 5 146 true rfl rfl e146) (plan_yield (i := 9) (V := fun _ _ v => v = (.int .u8 (ub.toNat : Int) : Value)) (.int .u8 (ub.toNat : Int)) (by go_simp) rfl hK)
                        · intro a w' K hs' hdep hfr hK
                          have e146 : a.tmps[146]?.getD undef = (.bool true) := hdep 5 (by decide) 146 rfl
                          have f20 := hfr 20 (by decide)
                          exact plan_do (wanted_of 5 146 true rfl rfl e146) (plan_yield (i := 10) (V := fun _ _ v => v = (.slice (some ⟨gs, 0, none⟩) 512 cs : Value)) (.slice (some ⟨gs, 0, none⟩) 512 cs) (by go_simp) rfl hK)
                        · intro a w' K hs' hdep hfr hK
                          have e146 : a.tmps[146]?.getD undef = (.bool true) := hdep 5 (by decide) 146 rfl
                          have f22 := hfr 22 (by decide)
                          exact plan_do (wanted_of 5 146 true rfl rfl e146) (plan_yield (i := 11) (V := fun _ _ v => v = (.int .i64 (t : Nat) : Value)) (.int .i64 (t : Nat)) (by go_simp) rfl hK)
                        · intro a w' K hs' hdep hfr hK
                          have e151 : a.tmps[151]?.getD undef = (.slice (some ⟨gs, 0, none⟩) 512 cs) := hdep 10 (by decide) 151 rfl
                          have e152 : a.tmps[152]?.getD undef = (.int .i64 (t : Nat)) := hdep 11 (by decide) 152 rfl
                          have e146 : a.tmps[146]?.getD undef = (.bool true) := hdep 5 (by decide) 146 rfl
                          exact plan_do (wanted_of 5 146 true rfl rfl e146) (plan_yield (i := 12) (V := fun _ _ v => v = (.pointer (some ⟨gs, t, none⟩) : Value)) (.pointer (some ⟨gs, t, none⟩)) (by go_simp) rfl hK)
                        · intro a w' K hs' hdep hfr hK
                          have e153 : a.tmps[153]?.getD undef = (.pointer (some ⟨gs, t, none⟩)) := hdep 12 (by decide) 153 rfl
                          have e146 : a.tmps[146]?.getD undef = (.bool true) := hdep 5 (by decide) 146 rfl
                          have cl := HCT.out w' hs'
                          exact plan_do (wanted_of 5 146 true rfl rfl e146) (plan_yield (i := 13) (V := fun _ _ v => v = (.int .u8 (us.toNat : Int) : Value)) (.int .u8 (us.toNat : Int)) (by go_simp) rfl hK)
                        · intro a w' K hs' hdep hfr hK
                          have e150 : a.tmps[150]?.getD undef = (.int .u8 (ub.toNat : Int)) := hdep 9 (by decide) 150 rfl
                          have e154 : a.tmps[154]?.getD undef = (.int .u8 (us.toNat : Int)) := hdep 13 (by decide) 154 rfl
                          have e146 : a.tmps[146]?.getD undef = (.bool true) := hdep 5 (by decide) 146 rfl
                          have hh := HHI.out
                          exact plan_do (wanted_of 5 146 true rfl rfl e146) (plan_yield (i := 14) (V := fun _ _ v => v = (.bool hit : Value)) (.bool hit) (by go_simp) rfl hK)
                        · intro a w' K hs' hdep hfr hK
                          have e146 : a.tmps[146]?.getD undef = (.bool true) := hdep 5 (by decide) 146 rfl
                          have e155 : a.tmps[155]?.getD undef = (.bool hit) := hdep 14 (by decide) 155 rfl
                          have e142 : a.tmps[142]?.getD undef = (.bool false) := hdep 1 (by decide) 142 rfl
                          exact plan_do (wanted_of 1 142 false rfl rfl e142) (plan_yield (i := 15) (V := fun _ _ v => v = (.bool hit : Value)) (.bool hit) (by go_simp) rfl hK)
                        · intro a w' K hs' hdep hfr hK
                          have e142 : a.tmps[142]?.getD undef = (.bool false) := hdep 1 (by decide) 142 rfl
                          have e156 : a.tmps[156]?.getD undef = (.bool hit) := hdep 15 (by decide) 156 rfl
                          exact plan_do (by rfl) (plan_yield (i := 16) (V := fun _ _ v => v = (.bool hit : Value)) (.bool hit) (by go_simp) rfl hK)
                      intro a w9 hk9 hdef hsz hv hfr ev _ _
                      have e157 : a.tmps[157]?.getD undef = (.bool hit) := hv 16 157 (by omega) rfl
                      have he := act_eq a _ [some 141, some 142, some 143, some 144, some 145, some 146, some 147, some 148, some 149, some 150, some 151, some 152, some 153, some 154, some 155, some 156, some 157] 163 rfl hsz hdef hfr (fun d => a.tmps[d]?.getD undef) (fun _ _ => rfl)
                      obtain ⟨v141, h141⟩ : ∃ v, a.tmps[141]?.getD undef = v := ⟨_, rfl⟩
                      obtain ⟨v142, h142⟩ : ∃ v, a.tmps[142]?.getD undef = v := ⟨_, rfl⟩
                      obtain ⟨v143, h143⟩ : ∃ v, a.tmps[143]?.getD undef = v := ⟨_, rfl⟩
                      obtain ⟨v144, h144⟩ : ∃ v, a.tmps[144]?.getD undef = v := ⟨_, rfl⟩
                      obtain ⟨v145, h145⟩ : ∃ v, a.tmps[145]?.getD undef = v := ⟨_, rfl⟩
                      obtain ⟨v146, h146⟩ : ∃ v, a.tmps[146]?.getD undef = v := ⟨_, rfl⟩
                      obtain ⟨v147, h147⟩ : ∃ v, a.tmps[147]?.getD undef = v := ⟨_, rfl⟩
                      obtain ⟨v148, h148⟩ : ∃ v, a.tmps[148]?.getD undef = v := ⟨_, rfl⟩
                      obtain ⟨v149, h149⟩ : ∃ v, a.tmps[149]?.getD undef = v := ⟨_, rfl⟩
                      obtain ⟨v150, h150⟩ : ∃ v, a.tmps[150]?.getD undef = v := ⟨_, rfl⟩
                      obtain ⟨v151, h151⟩ : ∃ v, a.tmps[151]?.getD undef = v := ⟨_, rfl⟩
                      obtain ⟨v152, h152⟩ : ∃ v, a.tmps[152]?.getD undef = v := ⟨_, rfl⟩
                      obtain ⟨v153, h153⟩ : ∃ v, a.tmps[153]?.getD undef = v := ⟨_, rfl⟩
                      obtain ⟨v154, h154⟩ : ∃ v, a.tmps[154]?.getD undef = v := ⟨_, rfl⟩
                      obtain ⟨v155, h155⟩ : ∃ v, a.tmps[155]?.getD undef = v := ⟨_, rfl⟩
                      obtain ⟨v156, h156⟩ : ∃ v, a.tmps[156]?.getD undef = v := ⟨_, rfl⟩
                      simp only [putAll, h141, h142, h143, h144, h145, h146, h147, h148, h149, h150, h151, h152, h153, h154, h155, h156, e157, List.setIfInBounds_toArray, List.set_cons_zero, List.set_cons_succ] at he
                      clear h141 h142 h143 h144 h145 h146 h147 h148 h149 h150 h151 h152 h153 h154 h155 h156 e157 hdef hsz hv hfr
                      subst he
                      have HS3 := Lib.hid (HS2.out.trans hk9 (fun _ _ e => e))
                      clear hk9 ci'
                      go_wp2
                      go_roundw
                      case rel => exact ⟨q + 1, hit, by omega, by go_num, rfl, HS3.out, HNY.out⟩
                      case measure => simp [intOf]; omega
                  · have hq2 : ¬ (q : Int) < (n : Int) := by omega
                    obtain rfl : fb = true := by
                      obtain ⟨p, hp, he⟩ := HHIT.out k hk t
                      obtain ⟨a, ha, rfl⟩ := List.mem_iff_getElem.1 hp
                      exact HH.out a (by have := HNN.out; omega) ha (by rw [he, HSE.out])
                    clear hs
                    go_wp2
                    go_roundw
                    case rel => exact ⟨t + 1, by omega, by go_num, HS2.out⟩
                    case measure => simp [intOf]; omega
              · have ht2 : ¬ (t : Int) < 512 := by omega
                have HI9 := Lib.hid (HI7.out.keep hs)
                have HX9 := Lib.hid (HX7.out.same hs)
                clear hs
                go_wp2
                go_roundw
                case rel => exact ⟨k + 1, by omega, by go_num, HI9.out, HX9.out⟩
                case measure => simp [intOf]; omega
          · have hk2 : ¬ (k : Int) < 8 := by omega
            go_wp2
            go_ret
            exact ⟨rfl, HI3.out.same⟩
end Go.Proofs.Ytoimhniijeafaaa
