/- An open write as a value; what (*disk.Disk).Write does. -/
import Derived.Test.YtoimhniijeafaaaDk2
import Derived.Test.YtoimhniijeafaaaPlan5
namespace Go.Proofs.Ytoimhniijeafaaa
open Go.RowKit
set_option linter.unusedVariables false

theorem fill_two {place : Nat → Option (Nat × Nat)} {n : Nat} (h0 : place 0 = some (0, 1)) (h1 : place 1 = some (1, n)) (base : Array Value) (hb : base.size = n + 1) (v : Value) (hv : v.cells = #[v]) (cs : Array Value) (hc : cs.size = n) :
    Instr.fill place base [(0, v), (1, .agg cs)] = some (v :: cs.toList).toArray := by
  have e1 : (Value.agg cs).cells = cs := rfl
  unfold Instr.fill
  simp only [h0, hv]
  have hz : (#[v].zipIdx.foldl (fun cs (x : Value × Nat) => cs.setIfInBounds (0 + x.2) x.1) base) = base.setIfInBounds 0 v := by simp [Array.zipIdx]
  rw [if_neg (by simp [hb]), hz]
  unfold Instr.fill
  simp only [h1, e1]
  rw [if_neg (by simp [hb, hc, Nat.add_comm])]
  unfold Instr.fill
  congr 1
  obtain ⟨g1, g2⟩ := Great.foldl_set 1 cs.toList 0 (base.setIfInBounds 0 v)
  have hf : cs.zipIdx.foldl (fun cs (x : Value × Nat) => cs.setIfInBounds (1 + x.2) x.1) (base.setIfInBounds 0 v) = (cs.toList.zipIdx 0).foldl (fun cs (x : Value × Nat) => cs.setIfInBounds (1 + x.2) x.1) (base.setIfInBounds 0 v) := by
    rw [← Array.foldl_toList]
    simp
  rw [hf]
  apply Array.ext_getElem?
  intro k
  rw [g2 k]
  simp only [Array.length_toList, Array.size_setIfInBounds, hb, hc]
  cases k with
  | zero => rw [if_neg (by omega)]; simp [hb]
  | succ k =>
    by_cases hk : k < n
    · rw [if_pos (by omega)]
      simp
    · rw [if_neg (by omega), Array.getElem?_eq_none (by simp; omega), Array.getElem?_eq_none (by simp; omega)]
theorem Try.placeWrite : ∀ parts, Try.prog.built 64 parts = Instr.fill ([(0, 1), (1, 512)].toArray[·]?) (Value.agg (.int .i64 0 :: u8s noughts).toArray).cells parts := by intro parts; kernel_rfl
theorem built_write (i : Nat) (bs : List UInt8) (h : bs.length = 512) : Try.prog.built 64 [(0, .int .i64 (i : Int)), (1, .agg (u8s bs).toArray)] = some (wcells (i, bs)).toArray := by
  rw [Try.placeWrite, fill_two (n := 512) rfl rfl _ _ _ rfl _ (by rw [List.size_toArray, u8s_length, h])]
  · rfl
  · simp [Value.cells, u8s_length, noughts_length]
theorem Try.infoWrite : (Try.prog.info? 64).map (fun i => (i.zero, i.size, i.bytes)) = some (some (.agg (.int .i64 0 :: u8s noughts).toArray), 513, 520) := by kernel_rfl


section
variable {P : Program} {Q : Exit → Act → World → Prop}
theorem plan_build {o : Oper} {a : Act} {w : World} {K : Act → World → Prop} (t : TypeId) (parts : Array (Nat × Operand)) (ho : o.op = .build t parts) (cells : Array Value) (hf : P.built t (parts.map fun (i, x) => (i, a.eval x)).toList = some cells)
    (h : K (a.put o.dst (.agg cells)) w) : Oper.wp P o a w K Q := by
  unfold Oper.wp execOp
  simp only [ho, Sem.run_bind, run_build w t _ _ hf, Result.andThen_ok]
  exact h
end

/-- What a call of Write makes of a disk, and what it answers. -/
def DSt.wrote (s : DSt) (i : Int) (bs : List UInt8) : DSt := if s.down = true then s else if 0 ≤ i ∧ i < (s.L.length : Int) then DSt.spent { s with O := s.O ++ [(i.toNat, bs)] } else s
def DSt.wcode (s : DSt) (i : Int) : Int := if s.down = true then 3 else if 0 ≤ i ∧ i < (s.L.length : Int) then (if s.power = true then 0 else 3) else 2
def WrE (ov : Value) (O : List (Nat × List UInt8)) (o : Nat × List UInt8) (lo : Nat) : Nat → Value → World → Prop
  | 0, _, w => OwnRow w 64 513 wcells ov O
  | _ + 1, v, w => ∃ g cap, v = .slice (some ⟨g, 0, none⟩) (O ++ [o]).length cap ∧ OwnRow w 64 513 wcells v (O ++ [o]) ∧ (ov.ownBlock = some g ∨ lo ≤ g)
theorem WrE.same {ov : Value} {O : List (Nat × List UInt8)} {o : Nat × List UInt8} {lo : Nat} (q : Nat) (v : Value) (w w' : World) (h : WrE ov O o lo q v w) (k : Same w w') : WrE ov O o lo q v w' := by
  cases q with
  | zero => exact OwnRow.keep h k (fun _ _ e => e)
  | succ q =>
    obtain ⟨g, c, e, h1, h2⟩ := h
    exact ⟨g, c, e, h1.keep k (fun _ _ e => e), h2⟩

set_option maxRecDepth 100000 in
set_option maxHeartbeats 3200000 in
theorem write_out (w : World) (D : Nat) (lv ov : Value) (s : DSt) (i : Int) (x : Value) (h : DiskAt w D lv ov s) (hno : ¬ (s.down = false ∧ 0 ≤ i ∧ i < (s.L.length : Int))) :
    Calls Try.prog 21 #[.pointer (some ⟨D, 0, none⟩), .int .i64 i, x] w fun e w' => e = .returned (.int .i64 (s.wcode i)) ∧ w' = w := by
  have hr : (if s.down = true then (3 : Int) else if 0 ≤ i ∧ i < (s.L.length : Int) then 0 else 2) = s.wcode i ∧ (s.wcode i == 0) = false := by
    unfold DSt.wcode
    cases hd : s.down with
    | true => simp
    | false =>
      have : ¬ (0 ≤ i ∧ i < (s.L.length : Int)) := fun q => hno ⟨hd, q⟩
      simp [this]
  have H := Lib.hid h
  obtain ⟨r1, r2⟩ := hr
  have HR1 := Lib.hid r1
  clear h hno r1
  generalize s.wcode i = r at *
  go_enter Try.func21, Try.ntmps21
  go_wp2_with fail
  refine (reach_ok _ D lv ov s i H.out).mono ?_
  rintro e w1 ⟨he, rfl⟩
  rw [HR1.out] at he
  subst he
  go_wp2
  go_ret
  exact ⟨rfl, rfl⟩

set_option maxRecDepth 100000 in
set_option maxHeartbeats 3200000 in
theorem write_short (w : World) (D : Nat) (lv ov : Value) (s : DSt) (i : Int) (ao : Option Addr) (n c : Nat) (h : DiskAt w D lv ov s) (hin : s.down = false ∧ 0 ≤ i ∧ i < (s.L.length : Int)) (hn : n ≠ 512) :
    Calls Try.prog 21 #[.pointer (some ⟨D, 0, none⟩), .int .i64 i, .slice ao n c] w fun e w' => e = .returned (.int .i64 1) ∧ w' = w := by
  have hr : (if s.down = true then (3 : Int) else if 0 ≤ i ∧ i < (s.L.length : Int) then 0 else 2) = 0 := by rw [hin.1, if_neg (by simp), if_pos hin.2]
  have HR1 := Lib.hid hr
  have H := Lib.hid h
  have q : ((n : Int) == 512) = false := by simp; omega
  clear h hr hin hn
  go_enter Try.func21, Try.ntmps21
  go_wp2_with fail
  refine (reach_ok _ D lv ov s i H.out).mono ?_
  rintro e w1 ⟨he, rfl⟩
  rw [HR1.out] at he
  subst he
  go_wp2
  go_ret
  exact ⟨rfl, rfl⟩

set_option maxRecDepth 100000 in
set_option maxHeartbeats 6400000 in
theorem write_in (w : World) (D : Nat) (lv ov : Value) (s : DSt) (m b o c : Nat) (bs : List UInt8) (h : DiskAt w D lv ov s) (hdn : s.down = false) (hm : m < s.L.length) (hx : w.rangeAt b o (u8s bs)) (hl : bs.length = 512) (hfar : ¬ Foot D lv ov b) (hO : s.O.length ≤ 100000) :
    Calls Try.prog 21 #[.pointer (some ⟨D, 0, none⟩), .int .i64 (m : Nat), .slice (some ⟨b, o, none⟩) 512 c] w fun e w' => ∃ ov', e = .returned (.int .i64 (if s.power = true then 0 else 3)) ∧ DiskAt w' D lv ov' (DSt.spent { s with O := s.O ++ [(m, bs)] }) ∧ DStep w w' D lv ov lv ov' := by
  have hr : (if s.down = true then (3 : Int) else if (0 : Int) ≤ (m : Int) ∧ (m : Int) < (s.L.length : Int) then 0 else 2) = 0 := by rw [hdn, if_neg (by simp), if_pos (by omega)]
  obtain ⟨ie, hie, hz0, hz1, hz2⟩ := info_parts Try.infoWrite
  have hml := h.few
  have HR1 := Lib.hid hr
  have H := Lib.hid h
  have HX := Lib.hid hx
  have HFAR := Lib.hid hfar
  have HZ := Lib.hid hz0
  have HBW := Lib.hid (built_write m bs hl)
  have HWL : Hid ((wcells (m, bs)).toArray.size = 513) := Lib.hid (by rw [List.size_toArray, wcells_length, hl])
  have HSS : Hid ((Try.prog.info? 59).map (·.size) = some (u8s bs).length) := Lib.hid (by
    obtain ⟨ik, hik, _, hk1, _⟩ := info_parts Try.infoSector
    rw [hik, u8s_length, hl]; simp [hk1])
  have hD := h.obj.lt
  obtain ⟨r, hr0⟩ : ∃ r, (if s.power = true then (0 : Int) else 3) = r := ⟨_, rfl⟩
  obtain ⟨s2, hs2⟩ : ∃ s2, DSt.spent { s with O := s.O ++ [(m, bs)] } = s2 := ⟨_, rfl⟩
  have HARR : Hid (∀ w', (Instr.arrayAt 59 (.slice (some ⟨b, o, none⟩) 512 c)).run Try.prog w' = .ok (.pointer (some ⟨b, o, none⟩)) w') := Lib.hid (fun w' => by
    simp [Instr.arrayAt, run_underlying Try.underlying59])
  rw [hr0, hs2]
  have HR0 := Lib.hid hr0
  have HS2 := Lib.hid hs2
  clear h hr hx hfar hz0 hr0 hs2
  go_enter Try.func21, Try.ntmps21
  go_wp2_with fail
  refine (reach_ok _ D lv ov s m H.out).mono ?_
  rintro e w1 ⟨he, rfl⟩
  rw [HR1.out] at he
  subst he
  go_wp2_with fail
  have HNO := Lib.hid H.out.no
  refine wp_region_hand [[], [], [1], [2], [3], [], [], [6], [7], [5, 8], [9], [4, 10], [0, 0, 1, 2, 3, 4, 5, 6, 7, 8, 9, 10, 11], [12, 0, 1, 2, 3, 4, 5, 6, 7, 8, 9, 10, 11], [13, 11, 11, 0, 1, 2, 3, 4, 5, 6, 7, 8, 9, 10, 11]]
    [some 17, some 18, some 19, some 20, some 21, some 22, some 23, some 24, some 25, some 26, some 27, some 28, some 29, some 30, none]
    [.is (.pointer (some ⟨D, 0, none⟩)), .is (.pointer (some ⟨D, 0, none⟩)), .is (.pointer (some ⟨D, 0, none⟩)), .is (.pointer (some ⟨D, 1, none⟩)), .is ov, .is (.int .i64 (m : Nat)), .is (.slice (some ⟨b, o, none⟩) 512 c), .is (.pointer (some ⟨b, o, none⟩)), .is (.agg (u8s bs).toArray), .is (.agg (wcells (m, bs)).toArray), .litN 64 (wcells (m, bs)).toArray 1]
    (fun k => ov.ownBlock = some k) [11] (WrE ov s.O (m, bs) w1.heap.size) 6 _ _ 33 12 15 (by kernel_rfl) (by rfl) (by rfl) (by omega) (by kernel_rfl) (by kernel_rfl) (by decide) (by decide) (fun k e => H.out.opn.lt k e) H.out.opn WrE.same ?_ ?_
  · refine ⟨?_, ?_, ?_, ?_, ?_, ?_, ?_, ?_, ?_, ?_, ?_, ?_, trivial⟩
    · intro a w' K hk hdep hfr hK
      have f := hfr 0 (by decide)
      exact plan_do (by rfl) (plan_yield (i := 0) (V := fun _ _ v => v = (.pointer (some ⟨D, 0, none⟩) : Value)) (.pointer (some ⟨D, 0, none⟩)) (by go_simp) rfl hK)
    · intro a w' K hk hdep hfr hK
      have f := hfr 0 (by decide)
      exact plan_do (by rfl) (plan_yield (i := 1) (V := fun _ _ v => v = (.pointer (some ⟨D, 0, none⟩) : Value)) (.pointer (some ⟨D, 0, none⟩)) (by go_simp) rfl hK)
    · intro a w' K hk hdep hfr hK
      have e18 : a.tmps[18]?.getD undef = .pointer (some ⟨D, 0, none⟩) := hdep 1 (by decide) 18 rfl
      exact plan_do (by rfl) (plan_yield (i := 2) (V := fun _ _ v => v = (.pointer (some ⟨D, 0, none⟩) : Value)) (.pointer (some ⟨D, 0, none⟩)) (by go_simp) rfl hK)
    · intro a w' K hk hdep hfr hK
      have e19 : a.tmps[19]?.getD undef = .pointer (some ⟨D, 0, none⟩) := hdep 2 (by decide) 19 rfl
      exact plan_do (by rfl) (plan_yield (i := 3) (V := fun _ _ v => v = (.pointer (some ⟨D, 1, none⟩) : Value)) (.pointer (some ⟨D, 1, none⟩)) (by go_simp) rfl hK)
    · intro a w' K hk hdep hfr hK
      have e20 : a.tmps[20]?.getD undef = .pointer (some ⟨D, 1, none⟩) := hdep 3 (by decide) 20 rfl
      have c1 : w'.cell? ⟨D, 1, none⟩ = some ov := (H.out.obj.keep hk HNO.out).cell (i := 1) rfl
      exact plan_do (by rfl) (plan_yield (i := 4) (V := fun _ _ v => v = ov) ov (by go_simp) rfl hK)
    · intro a w' K hk hdep hfr hK
      have f := hfr 1 (by decide)
      exact plan_do (by rfl) (plan_yield (i := 5) (V := fun _ _ v => v = (.int .i64 (m : Nat) : Value)) (.int .i64 (m : Nat)) (by go_simp) rfl hK)
    · intro a w' K hk hdep hfr hK
      have f := hfr 2 (by decide)
      exact plan_do (by rfl) (plan_yield (i := 6) (V := fun _ _ v => v = (.slice (some ⟨b, o, none⟩) 512 c : Value)) (.slice (some ⟨b, o, none⟩) 512 c) (by go_simp) rfl hK)
    · intro a w' K hk hdep hfr hK
      have e23 : a.tmps[23]?.getD undef = .slice (some ⟨b, o, none⟩) 512 c := hdep 6 (by decide) 23 rfl
      have harr := HARR.out w'
      exact plan_do (by rfl) (plan_yield (i := 7) (V := fun _ _ v => v = (.pointer (some ⟨b, o, none⟩) : Value)) (.pointer (some ⟨b, o, none⟩)) (by go_simp) rfl hK)
    · intro a w' K hk hdep hfr hK
      have e24 : a.tmps[24]?.getD undef = .pointer (some ⟨b, o, none⟩) := hdep 7 (by decide) 24 rfl
      exact plan_do (by rfl) (wp_load_mid 59 (.tmp 24) rfl b o ((eval_tmp _ _).trans e24) (u8s bs) _ (rangeAt_keep HX.out hk (fun _ e => HFAR.out (.inr (.inr e)))) Try.underlying59 rfl HSS.out (hK _ _ (Keeps.refl _ _) rfl))
    · intro a w' K hk hdep hfr hK
      have e22 : a.tmps[22]?.getD undef = .int .i64 (m : Nat) := hdep 5 (by decide) 22 rfl
      have e25 : a.tmps[25]?.getD undef = .agg (u8s bs).toArray := hdep 8 (by decide) 25 rfl
      refine plan_do (by rfl) (plan_build 64 #[(0, .tmp 22), (1, .tmp 25)] rfl (wcells (m, bs)).toArray ?_ (hK _ _ (Keeps.refl _ _) rfl))
      simp only [List.map_toArray, List.map_cons, List.map_nil, eval_tmp, e22, e25]
      exact HBW.out
    · intro a w' K hk hdep hfr hK
      have e26 : a.tmps[26]?.getD undef = .agg (wcells (m, bs)).toArray := hdep 9 (by decide) 26 rfl
      exact plan_do (by rfl) (wp_buildOne 55 64 (.tmp 26) rfl (wcells (m, bs)).toArray ie _ ((eval_tmp _ _).trans e26) Try.underlying55 hie HZ.out (by rw [hz1, HWL.out]) (by rw [HWL.out]; omega) (by rw [HWL.out]; omega) (hK _ _ ((Keeps.refl _ _).alloc _) ⟨w'.heap.size, rfl, hk.size, heap_alloc_new w' _⟩))
    · intro a w' K hk hdep hfr ev hE hev hK
      have e21 : a.tmps[21]?.getD undef = ov := hdep 4 (by decide) 21 rfl
      obtain ⟨G, e27, hG, hlit⟩ : ∃ G, a.tmps[27]?.getD undef = .slice (some ⟨G, 0, none⟩) 1 1 ∧ w1.heap.size ≤ G ∧ w'.heap[G]? = some (.cells (wcells (m, bs)).toArray 64 (0, 0)) := hdep 10 (by decide) 27 rfl
      obtain ⟨g, cp, w'', hrun, ho, hg, hat, _⟩ := run_append_lies (P := Try.prog) w' 55 55 0 64 ie (.agg (.int .i64 0 :: u8s noughts).toArray) 513 520 Try.underlying55 hie HZ.out hz1 hz2 (by simp [Value.cells, u8s_length, noughts_length]) (by omega) ov s.O.length (s.O.flatMap wcells) hE ⟨G, 0, none⟩ 1 1 (wcells (m, bs)) (by have := HWL.out; simpa using this) (fun j u hu => by
        rw [Addr.add_mid, cell_of_row _ _ _ _ _ _ hlit]; simpa using hu) (wcells_one _) (by omega) (by simp only [maxLen]; omega) (by omega) (Nat.zero_le _) w'.heap.size rfl
      refine step_append_run (by rfl) (.tmp 21) (.tmp 27) 55 (by rfl) ov (.slice (some ⟨G, 0, none⟩) 1 1) _ w'' ((eval_tmp _ _).trans e21) ((eval_tmp _ _).trans e27) hrun ?_
      refine hK _ _ ((Keeps.refl _ _).grown hg (fun k e _ => e)) ⟨g, cp, by rw [List.length_append]; rfl, ?_, ?_⟩ trivial
      · unfold OwnRow
        rw [List.length_append, List.flatMap_append]
        simpa using ho
      · rcases hat with hat | hat
        · exact .inl hat
        · right; have := hk.size; omega
  intro a w2 hk hdef hsz hv hfr ev hE1 hev
  have e28 := hev 0 28 rfl rfl
  have e17 : a.tmps[17]?.getD undef = .pointer (some ⟨D, 0, none⟩) := hv 0 17 (by omega) rfl
  obtain ⟨g, cp, rfl, hrow, hat⟩ := hE1
  have he := act_eq a _ [some 17, some 18, some 19, some 20, some 21, some 22, some 23, some 24, some 25, some 26, some 27, some 28] 33 rfl hsz hdef hfr (fun d => a.tmps[d]?.getD undef) (fun _ _ => rfl)
  obtain ⟨v18, h18⟩ : ∃ v, a.tmps[18]?.getD undef = v := ⟨_, rfl⟩
  obtain ⟨v19, h19⟩ : ∃ v, a.tmps[19]?.getD undef = v := ⟨_, rfl⟩
  obtain ⟨v20, h20⟩ : ∃ v, a.tmps[20]?.getD undef = v := ⟨_, rfl⟩
  obtain ⟨v21, h21⟩ : ∃ v, a.tmps[21]?.getD undef = v := ⟨_, rfl⟩
  obtain ⟨v22, h22⟩ : ∃ v, a.tmps[22]?.getD undef = v := ⟨_, rfl⟩
  obtain ⟨v23, h23⟩ : ∃ v, a.tmps[23]?.getD undef = v := ⟨_, rfl⟩
  obtain ⟨v24, h24⟩ : ∃ v, a.tmps[24]?.getD undef = v := ⟨_, rfl⟩
  obtain ⟨v25, h25⟩ : ∃ v, a.tmps[25]?.getD undef = v := ⟨_, rfl⟩
  obtain ⟨v26, h26⟩ : ∃ v, a.tmps[26]?.getD undef = v := ⟨_, rfl⟩
  obtain ⟨v27, h27⟩ : ∃ v, a.tmps[27]?.getD undef = v := ⟨_, rfl⟩
  simp only [putAll, e17, h18, h19, h20, h21, h22, h23, h24, h25, h26, h27, e28, List.setIfInBounds_toArray, List.set_cons_zero, List.set_cons_succ] at he
  clear e17 h18 h19 h20 h21 h22 h23 h24 h25 h26 h27 e28 hdef hsz hv hfr hev
  subst he
  obtain ⟨ov', hov'⟩ : ∃ ov', Value.slice (some ⟨g, 0, none⟩) (s.O ++ [(m, bs)]).length cp = ov' := ⟨_, rfl⟩
  have hown' : ov'.ownBlock = some g := by rw [← hov']; rfl
  have hone' : ov'.oneCell' = true := by rw [← hov']; rfl
  have hgw : g < w2.heap.size := hrow.lt g rfl
  rw [hov'] at hrow ⊢
  have hob2 := H.out.obj.keep hk HNO.out
  have hla2 := H.out.las.keep hk (fun k e e2 => H.out.nx k e e2)
  have c2 := hob2.cell (i := 1) rfl
  have g2 := hob2.free 1
  have kset : Keeps (fun k => k = D) w2 (w2.setCell ⟨D, 1, none⟩ ov') := (Keeps.refl _ _).setCell _ _ (.inr rfl)
  have hgD : g ≠ D := by
    rintro rfl
    rcases hat with hat | hat
    · exact HNO.out hat
    · omega
  have HD3 : Hid (DiskAt (w2.setCell ⟨D, 1, none⟩ ov') D lv ov' { s with O := s.O ++ [(m, bs)] }) := Lib.hid ⟨hob2.set 1 ov', hla2.keep kset (fun k e e2 => H.out.nl (by rw [e, e2])), hrow.keep kset (fun k e e2 => hgD (by rw [hown'] at e; cases e; exact e2)), H.out.nl, by rw [hown']; simpa using hgD, fun k e e2 => by
      rw [hown'] at e2; cases e2
      rcases hat with hat | hat
      · exact H.out.nx _ e hat
      · have := H.out.las.lt _ e; omega, H.out.sec, fun q hq => by
      rcases List.mem_append.1 hq with hq | hq
      · exact H.out.wr q hq
      · simp only [List.mem_singleton] at hq; subst hq; exact ⟨hl, hm⟩, H.out.few, H.out.lft⟩
  have HS3 : Hid (DStep w1 (w2.setCell ⟨D, 1, none⟩ ov') D lv ov lv ov') := Lib.hid ⟨(hk.mono (S' := Foot D lv ov) (fun _ _ e => .inr (.inr e))).trans kset (fun _ _ e => .inl e), fun k e => by
      rcases e with e | e | e
      · exact .inl (.inl e)
      · exact .inl (.inr (.inl e))
      · rw [hown'] at e; cases e
        rcases hat with hat | hat
        · exact .inl (.inr (.inr hat))
        · exact .inr hat⟩
  have hpw : DSt.power { s with O := s.O ++ [(m, bs)] } = s.power := rfl
  clear hk hrow hob2 hla2 kset hov'
  cases ov' <;> simp [Value.ownBlock] at hown'
  go_wp2_with fail
  refine (spend_ok _ D lv _ _ HD3.out).mono ?_
  rintro e w4 ⟨rfl, hd4, hs4⟩
  rw [hpw, HR0.out]
  rw [HS2.out] at hd4
  have HD4 := Lib.hid hd4
  have HS4 := Lib.hid (HS3.out.trans hs4)
  clear hd4 hs4
  go_wp2
  go_ret
  exact ⟨_, rfl, HD4.out, HS4.out⟩
end Go.Proofs.Ytoimhniijeafaaa
