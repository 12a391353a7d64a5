/- What oper.Read does. -/
import Derived.Test.YtafgiljgefeefaaDoorOpR1
import Derived.Test.YtafgiljgefeefaaDoorEqual
import Derived.Test.YtafgiljgefeefaaDoorRows2
import Derived.Test.YtafgiljgefeefaaDoorWhole
import Derived.Laws.ResultCell
import Derived.Laws.Tables
namespace Go.Proofs.YtafgiljgefeefaaDoor
open Go.RowKit
set_option linter.unusedVariables false

def opCells (k off n : Int) (p t : ByteArray) (x : Value) : List Value := [.int .i64 k, .string p, .string t, .int .i64 off, .int .i64 n, x]
def op0 : List Value := opCells 0 0 0 ⟨#[]⟩ ⟨#[]⟩ (.slice none 0 0)
theorem op_all (k off n : Int) (p t : ByteArray) (ao : Option Addr) (m c : Nat) : (opCells k off n p t (.slice ao m c)).toArray.all (·.oneCell') = true := by simp [opCells, Value.oneCell']
theorem Tryd.zeroOp (w : World) : (zeroValue 35).run Tryd.prog w = .ok (.agg op0.toArray) w := by kernel_rfl
theorem Tryd.sizeOp : (Tryd.prog.info? 35).map (·.size) = some 6 := by kernel_rfl
theorem Tryd.sizeReader : (Tryd.prog.info? 108).map (·.size) = some 1 := by kernel_rfl

/-- What bytes are as an operation, and the error's number. -/
def OpIs (bs : List UInt8) (k off n : Int) (p t : ByteArray) (ds : List UInt8) (er : Int) : Prop :=
  (OpRight k off n p t ds.length ∧ opBytes k off n p t ds = bs ∧ er = 0) ∨
  ((∀ k off n p t ds, OpRight k off n p t (List.length ds) → opBytes k off n p t ds ≠ bs) ∧ k = 0 ∧ off = 0 ∧ n = 0 ∧ p = ⟨#[]⟩ ∧ t = ⟨#[]⟩ ∧ ds = [] ∧ er = 22)

/-- The bytes of an operation, one part behind the other. -/
theorem opBytes_flat (k off n : Int) (p t : ByteArray) (ds : List UInt8) : opBytes k off n p t ds = be k.toNat 1 ++ (be off.toNat 2 ++ (be n.toNat 2 ++ (be (sb p).length 2 ++ (sb p ++ (be (sb t).length 2 ++ (sb t ++ (be ds.length 2 ++ (ds ++ [])))))))) := by
  simp [opBytes, List.append_assoc]
/-- An operation's bytes are read as its parts. -/
theorem rd_of_op {bs : List UInt8} {k off n : Int} {p t : ByteArray} {ds : List UInt8} (h : OpRight k off n p t ds.length) (hb : opBytes k off n p t ds = bs) (i1 i2 i3 i4 i5 : Nat) (h1 : numTo bs 0 1 = i1) (h2 : numTo bs i1 2 = i2) (h3 : numTo bs i2 2 = i3) (h4 : txtTo bs i3 = i4) (h5 : txtTo bs i4 = i5) :
    (numAt bs 0 1 : Int) = k ∧ (numAt bs i1 2 : Int) = off ∧ (numAt bs i2 2 : Int) = n ∧ txtAt bs i3 = sb p ∧ txtAt bs i4 = sb t ∧ txtAt bs i5 = ds ∧ (0 + 1 ≤ bs.length ∧ i1 + 2 ≤ bs.length ∧ i2 + 2 ≤ bs.length ∧ TxtOk bs i3 ∧ TxtOk bs i4 ∧ TxtOk bs i5 ∧ txtTo bs i5 = bs.length) := by
  obtain ⟨a1, a2, a3, a4, ⟨a5, a6⟩, ⟨a7, a8⟩, a9⟩ := h
  rw [opBytes_flat] at hb
  have hp := sb_length p
  have ht := sb_length t
  have b0 : bs.drop 0 = be k.toNat 1 ++ (be off.toNat 2 ++ (be n.toNat 2 ++ (be (sb p).length 2 ++ (sb p ++ (be (sb t).length 2 ++ (sb t ++ (be ds.length 2 ++ (ds ++ [])))))))) := by rw [List.drop_zero, hb]
  obtain ⟨c1, d1, e1, f1⟩ := num_of b0 (by omega) (by omega)
  rw [h1] at d1; subst d1
  obtain ⟨c2, d2, e2, f2⟩ := num_of e1 (by omega) (by omega)
  rw [h2] at d2; subst d2
  obtain ⟨c3, d3, e3, f3⟩ := num_of e2 (by omega) (by omega)
  rw [h3] at d3; subst d3
  obtain ⟨c4, d4, e4, f4⟩ := txt_of e3 (by omega)
  rw [h4] at d4; subst d4
  obtain ⟨c5, d5, e5, f5⟩ := txt_of e4 (by omega)
  rw [h5] at d5; subst d5
  obtain ⟨c6, d6, e6, f6⟩ := txt_of e5 (by omega)
  refine ⟨by rw [c1]; omega, by rw [c2]; omega, by rw [c3]; omega, c4, c5, c6, f1, f2, f3, f4, f5, f6, ?_⟩
  rw [d6]
  have h7 := (txtAt_len f6).2
  rw [c6] at h7
  have h8 := congrArg List.length e6
  simp at h8
  omega
/-- And what was read whole is its bytes. -/
theorem op_of_rd {bs : List UInt8} {i1 i2 i3 i4 i5 : Nat} (h1 : numTo bs 0 1 = i1) (h2 : numTo bs i1 2 = i2) (h3 : numTo bs i2 2 = i3) (h4 : txtTo bs i3 = i4) (h5 : txtTo bs i4 = i5)
    (q : 0 + 1 ≤ bs.length ∧ i1 + 2 ≤ bs.length ∧ i2 + 2 ≤ bs.length ∧ TxtOk bs i3 ∧ TxtOk bs i4 ∧ TxtOk bs i5 ∧ txtTo bs i5 = bs.length) :
    opBytes (numAt bs 0 1 : Nat) (numAt bs i1 2 : Nat) (numAt bs i2 2 : Nat) ⟨(txtAt bs i3).toArray⟩ ⟨(txtAt bs i4).toArray⟩ (txtAt bs i5) = bs := by
  obtain ⟨q1, q2, q3, q4, q5, q6, q7⟩ := q
  unfold numTo at h1 h2 h3
  unfold txtTo at h4 h5 q7
  rw [if_pos q1] at h1
  rw [if_pos q2] at h2
  rw [if_pos q3] at h3
  rw [if_pos q4] at h4
  rw [if_pos q5] at h5
  rw [if_pos q6] at q7
  rw [opBytes_flat, sb_mk, sb_mk]
  simp only [Int.toNat_natCast]
  have s1 := num_split q1
  have s2 := num_split q2
  have s3 := num_split q3
  have s4 := txt_split q4
  have s5 := txt_split q5
  have s6 := txt_split q6
  rw [h1] at s1
  rw [h2] at s2
  rw [h3] at s3
  rw [h4] at s4
  rw [h5] at s5
  rw [q7, List.drop_of_length_le (Nat.le_refl _)] at s6
  rw [← s6, ← s5, ← s4, ← s3, ← s2, ← s1, List.drop_zero]

/-- What stands where oper.Read reads. -/
structure RSt (w w' : World) (E : Nat) (yv : Value) (bs : List UInt8) (i B4 G : Nat) (cs : List Value) : Prop where
  eye : EyeW (w.alloc (.cells op0.toArray 35)) w' E yv bs i
  rdr : Whole w' B4 108 [.pointer (some ⟨E, 0, none⟩)]
  res : Whole w' w.heap.size 35 op0
  op : Whole w' G 35 cs
  same : Same w w'
  ne : w.heap.size < E ∧ E < B4 ∧ B4 < G ∧ ∀ j, yv.ownBlock = some j → j ≠ G
theorem RSt.call {w w' w'' : World} {E i j B4 G : Nat} {yv : Value} {bs : List UInt8} {cs : List Value} (h : RSt w w' E yv bs i B4 G cs) (k : Keeps (fun k => k = E) w' w'') (hy : EyeW (w.alloc (.cells op0.toArray 35)) w'' E yv bs j) : RSt w w'' E yv bs j B4 G cs := by
  obtain ⟨n1, n2, n3, n4⟩ := h.ne
  exact ⟨hy, h.rdr.keep k (by omega), h.res.keep k (by omega), h.op.keep k (by omega), h.same.trans k (fun q hq e => by omega), n1, n2, n3, n4⟩
theorem RSt.set {w w' : World} {E i B4 G : Nat} {yv : Value} {bs : List UInt8} {cs : List Value} (h : RSt w w' E yv bs i B4 G cs) (q : Nat) (v : Value) : RSt w (w'.setCell ⟨G, q, none⟩ v) E yv bs i B4 G (cs.set q v) := by
  obtain ⟨n1, n2, n3, n4⟩ := h.ne
  exact ⟨h.eye.keep' (S := fun q => q = G) ((Keeps.refl _ _).setCell _ _ (.inr rfl)) (by omega) (fun j e e2 => n4 j e e2) (fun j e => by simp; omega), h.rdr.far _ (by simp only; omega) _, h.res.far _ (by simp only; omega) _, h.op.set q v, h.same.setCell _ _ (.inl (by simp only; omega)), n1, n2, n3, n4⟩
theorem RSt.keep {w w' w'' : World} {E i B4 G : Nat} {yv : Value} {bs : List UInt8} {cs : List Value} (h : RSt w w' E yv bs i B4 G cs) (k : Same w' w'') : RSt w w'' E yv bs i B4 G cs :=
  ⟨h.eye.same' k, h.rdr.keep k (fun e => e), h.res.keep k (fun e => e), h.op.keep k (fun e => e), h.same.trans k (fun _ _ e => e), h.ne⟩

set_option maxRecDepth 100000 in
set_option maxHeartbeats 3200000 in
theorem opRead_own (ao : Option Addr) (c : Nat) (bs : List UInt8) (w : World) (hx : Bytes w (.slice ao bs.length c) bs) (hsp : ∀ x, ao = some x → bs ≠ [] → x.spot = none) (hc : bs.length ≤ c) (hl : bs.length ≤ 140737488351232) (hcn : ao = none → c = 0) :
    Calls Tryd.prog 45 #[.slice ao bs.length c] w fun e w' => Same w w' ∧ ∃ k off n p t ds v er, e = .returned (.tuple #[opVal k off n p t v, .int .i64 er]) ∧ Reads w' v ds ∧ OpIs bs k off n p t ds er ∧ (∀ a n c, v = .slice (some a) n c → w.heap.size ≤ a.block) ∧ (∀ ao n c, v = .slice ao n c → c ≤ 9223372036854775807) := by
  have hzs := Tryd.zeroOp
  have HX := Lib.hid hx
  have HSP := Lib.hid hsp
  have HCN := Lib.hid hcn
  have HR0 : Hid (Whole (w.alloc (.cells op0.toArray 35)) w.heap.size 35 op0) := Lib.hid (heap_alloc_new w _)
  have HX0 : Hid (Bytes (w.alloc (.cells op0.toArray 35)) (.slice ao bs.length c) bs) := Lib.hid (hx.same ((Keeps.refl _ _).alloc _))
  have h01 : w.heap.size < (w.alloc (.cells op0.toArray 35)).heap.size := by simp
  clear hx hsp hcn
  go_enter Tryd.func45, Tryd.ntmps45
  go_wp2_with fail
  ((with_reducible refine (neweye_w ao c bs _ HX0.out hc hl HCN.out).mono ?_); rintro e w1 ⟨E, yv, rfl, hy1⟩)
  have hR1 : Whole w1 w.heap.size 35 op0 := HR0.out.keep hy1.same (fun e => e)
  have hE : w.heap.size < E := by have := hy1.new; omega
  have hEl := hy1.lt
  have hk1 : Same w w1 := ((Keeps.refl _ _).alloc _).trans hy1.same (fun _ _ e => e)
  have HY1 := Lib.hid hy1
  have HR1 := Lib.hid hR1
  have HK1 := Lib.hid hk1
  clear hy1 hR1 hk1 HR0 HX0 HCN h01
  go_wp2_with fail
  have hz2 : (w1.alloc (.cells #[.pointer (some ⟨E, 0, none⟩)] 108)).heap.size = w1.heap.size + 1 := by simp
  obtain ⟨w2, hw2⟩ : ∃ w2, w1.alloc (.cells #[.pointer (some ⟨E, 0, none⟩)] 108) = w2 := ⟨_, rfl⟩
  have hk12 : Same w1 w2 := by rw [← hw2]; exact (Keeps.refl _ _).alloc _
  have HP2 : Hid (Whole w2 w1.heap.size 108 [.pointer (some ⟨E, 0, none⟩)]) := Lib.hid (by rw [← hw2]; exact heap_alloc_new w1 _)
  rw [hw2] at hz2 ⊢
  have HY2 := Lib.hid (HY1.out.same' hk12)
  have HR2 := Lib.hid (HR1.out.keep hk12 (fun e => e))
  have HK2 : Hid (Same w w2) := Lib.hid (HK1.out.trans hk12 (fun _ _ e => e))
  have hB4 : E < w1.heap.size ∧ w1.heap.size < w2.heap.size := ⟨hEl, by omega⟩
  clear hk12 hw2 hz2 HY1 HR1 HK1
  generalize hB : w1.heap.size = B4 at *
  obtain ⟨n0, hn0⟩ : ∃ n0, numAt bs 0 1 = n0 := ⟨_, rfl⟩
  obtain ⟨i1, hi1⟩ : ∃ i1, numTo bs 0 1 = i1 := ⟨_, rfl⟩
  obtain ⟨n1, hn1⟩ : ∃ n1, numAt bs i1 2 = n1 := ⟨_, rfl⟩
  obtain ⟨i2, hi2⟩ : ∃ i2, numTo bs i1 2 = i2 := ⟨_, rfl⟩
  obtain ⟨n2, hn2⟩ : ∃ n2, numAt bs i2 2 = n2 := ⟨_, rfl⟩
  obtain ⟨i3, hi3⟩ : ∃ i3, numTo bs i2 2 = i3 := ⟨_, rfl⟩
  have HIR := Lib.hid Tryd.sizeReader
  have HIO := Lib.hid Tryd.sizeOp
  refine wp_region_chain [[], [0], [], [2, 1], [], [4, 3], [1, 3, 5], [], [7, 6, 5, 0, 1, 2, 3, 4, 5, 6, 7]]
    [some 11, some 12, some 13, some 14, some 15, some 16, some 17, some 5, none]
    [.is (.agg #[.pointer (some ⟨E, 0, none⟩)]), .is (.int .i64 (n0 : Nat)), .is (.agg #[.pointer (some ⟨E, 0, none⟩)]), .is (.int .i64 (n1 : Nat)), .is (.agg #[.pointer (some ⟨E, 0, none⟩)]), .is (.int .i64 (n2 : Nat)),
      .is (.agg (opCells (n0 : Nat) (n1 : Nat) (n2 : Nat) ⟨#[]⟩ ⟨#[]⟩ (.slice none 0 0)).toArray), .fresh 35 op0.toArray, .any]
    (fun k => k = E) [1, 3, 5] (fun q w' => EyeW (w.alloc (.cells op0.toArray 35)) w' E yv bs ([0, i1, i2, i3].getD q 0)) 2 _ _ 44 9 (by kernel_rfl) (by rfl) (by rfl) (by omega) (by kernel_rfl) (by kernel_rfl) (by decide) (by decide) (fun k e => by omega) HY2.out (fun _ _ _ h k => h.same' k) ?_
  refine ⟨?_, ?_, ?_, ?_, ?_, ?_, ?_, ?_, ?_⟩
  · intro a w' K hk hdep hfr hK
    have f := hfr 4 (by decide)
    exact plan_do (by rfl) (wp_load_row 108 (.tmp 4) rfl B4 ((eval_tmp _ _).trans f) 108 #[.pointer (some ⟨E, 0, none⟩)] (0, 0) _ (HP2.out.keep hk (by omega)) Tryd.underlying108 rfl HIR.out (hK _ _ (Keeps.refl _ _) rfl))
  · intro a w' K hk hdep hfr hE hK
    have e11 : a.tmps[11]?.getD undef = .agg #[.pointer (some ⟨E, 0, none⟩)] := hdep 0 (by decide) 11 rfl
    refine plan_do (by rfl) (plan_call 59 #[.agg #[.pointer (some ⟨E, 0, none⟩)], .int .i64 1] (by go_simp) ?_)
    exact (rnum_w E bs 0 1 1 w' hE hl (by omega) (by omega) (by omega)).mono fun e w'' ⟨he, hy, hk2⟩ => ⟨_, he, hK _ _ hk2 (by rw [hi1] at hy; exact hy) (by rw [hn0]; rfl)⟩
  · intro a w' K hk hdep hfr hK
    have f := hfr 4 (by decide)
    exact plan_do (by rfl) (wp_load_row 108 (.tmp 4) rfl B4 ((eval_tmp _ _).trans f) 108 #[.pointer (some ⟨E, 0, none⟩)] (0, 0) _ (HP2.out.keep hk (by omega)) Tryd.underlying108 rfl HIR.out (hK _ _ (Keeps.refl _ _) rfl))
  · intro a w' K hk hdep hfr hE hK
    have e13 : a.tmps[13]?.getD undef = .agg #[.pointer (some ⟨E, 0, none⟩)] := hdep 2 (by decide) 13 rfl
    refine plan_do (by rfl) (plan_call 59 #[.agg #[.pointer (some ⟨E, 0, none⟩)], .int .i64 2] (by go_simp) ?_)
    exact (rnum_w E bs i1 2 2 w' hE hl (by omega) (by omega) (by omega)).mono fun e w'' ⟨he, hy, hk2⟩ => ⟨_, he, hK _ _ hk2 (by rw [hi2] at hy; exact hy) (by rw [hn1]; rfl)⟩
  · intro a w' K hk hdep hfr hK
    have f := hfr 4 (by decide)
    exact plan_do (by rfl) (wp_load_row 108 (.tmp 4) rfl B4 ((eval_tmp _ _).trans f) 108 #[.pointer (some ⟨E, 0, none⟩)] (0, 0) _ (HP2.out.keep hk (by omega)) Tryd.underlying108 rfl HIR.out (hK _ _ (Keeps.refl _ _) rfl))
  · intro a w' K hk hdep hfr hE hK
    have e15 : a.tmps[15]?.getD undef = .agg #[.pointer (some ⟨E, 0, none⟩)] := hdep 4 (by decide) 15 rfl
    refine plan_do (by rfl) (plan_call 59 #[.agg #[.pointer (some ⟨E, 0, none⟩)], .int .i64 2] (by go_simp) ?_)
    exact (rnum_w E bs i2 2 2 w' hE hl (by omega) (by omega) (by omega)).mono fun e w'' ⟨he, hy, hk2⟩ => ⟨_, he, hK _ _ hk2 (by rw [hi3] at hy; exact hy) (by rw [hn2]; rfl)⟩
  · intro a w' K hk hdep hfr hK
    have e12 : a.tmps[12]?.getD undef = .int .i64 (n0 : Nat) := hdep 1 (by decide) 12 rfl
    have e14 : a.tmps[14]?.getD undef = .int .i64 (n1 : Nat) := hdep 3 (by decide) 14 rfl
    have e16 : a.tmps[16]?.getD undef = .int .i64 (n2 : Nat) := hdep 5 (by decide) 16 rfl
    exact plan_do (by rfl) (plan_yield (i := 6) (V := fun _ _ v => v = (.agg (opCells (n0 : Nat) (n1 : Nat) (n2 : Nat) ⟨#[]⟩ ⟨#[]⟩ (.slice none 0 0)).toArray : Value)) _ (by go_simp; rfl) rfl hK)
  · intro a w' K hk hdep hfr hK
    exact plan_do (by rfl) (plan_go (.pointer (some ⟨w'.heap.size, 0, none⟩)) (w'.alloc (.cells op0.toArray 35)) (by go_simp) (hK _ _ ((Keeps.refl _ _).alloc _) ⟨_, rfl, hk.size, heap_alloc_new w' _⟩))
  · intro a w3 hk hdef hsz hv hfr hE3
    have e17 : a.tmps[17]?.getD undef = .agg (opCells (n0 : Nat) (n1 : Nat) (n2 : Nat) ⟨#[]⟩ ⟨#[]⟩ (.slice none 0 0)).toArray := hv 6 17 (by omega) rfl
    obtain ⟨G, e5, hG, hcell⟩ : ∃ G, a.tmps[5]?.getD undef = .pointer (some ⟨G, 0, none⟩) ∧ w2.heap.size ≤ G ∧ w3.heap[G]? = some (.cells op0.toArray 35 (0, 0)) := hv 7 5 (by omega) rfl
    have he := act_eq a _ [some 11, some 12, some 13, some 14, some 15, some 16, some 17, some 5, none] 44 rfl hsz hdef hfr (fun d => a.tmps[d]?.getD undef) (fun _ _ => rfl)
    obtain ⟨v11, h11⟩ : ∃ v, a.tmps[11]?.getD undef = v := ⟨_, rfl⟩
    obtain ⟨v12, h12⟩ : ∃ v, a.tmps[12]?.getD undef = v := ⟨_, rfl⟩
    obtain ⟨v13, h13⟩ : ∃ v, a.tmps[13]?.getD undef = v := ⟨_, rfl⟩
    obtain ⟨v14, h14⟩ : ∃ v, a.tmps[14]?.getD undef = v := ⟨_, rfl⟩
    obtain ⟨v15, h15⟩ : ∃ v, a.tmps[15]?.getD undef = v := ⟨_, rfl⟩
    obtain ⟨v16, h16⟩ : ∃ v, a.tmps[16]?.getD undef = v := ⟨_, rfl⟩
    simp only [putAll, h11, h12, h13, h14, h15, h16, e17, e5, List.setIfInBounds_toArray, List.set_cons_zero, List.set_cons_succ] at he
    have HE3 : Hid (EyeW (w.alloc (.cells op0.toArray 35)) w3 E yv bs i3) := Lib.hid hE3
    clear h11 h12 h13 h14 h15 h16 e17 e5 hdef hsz hv hfr hE3
    subst he
    have hrow := HY2.out.row_lt
    have hst0 : RSt w w3 E yv bs i3 B4 G op0 := ⟨HE3.out, HP2.out.keep hk (by omega), HR2.out.keep hk (by omega), hcell, HK2.out.trans hk (fun q hq e => by omega), by omega, hB4.1, by omega, fun j e => by have := hrow j e; omega⟩
    have hst : RSt w (w3.setRow G (opCells (n0 : Nat) (n1 : Nat) (n2 : Nat) ⟨#[]⟩ ⟨#[]⟩ (.slice none 0 0)).toArray) E yv bs i3 B4 G (opCells (n0 : Nat) (n1 : Nat) (n2 : Nat) ⟨#[]⟩ ⟨#[]⟩ (.slice none 0 0)) := by
      obtain ⟨m1, m2, m3, m4⟩ := hst0.ne
      have kk : Keeps (fun q => q = G) w3 (w3.setRow G (opCells (n0 : Nat) (n1 : Nat) (n2 : Nat) ⟨#[]⟩ ⟨#[]⟩ (.slice none 0 0)).toArray) := (Keeps.refl _ _).setRow _ _ (.inr rfl)
      exact ⟨hst0.eye.keep' kk (by omega) m4 (fun j e => by simp; omega), hst0.rdr.keep kk (by omega), hst0.res.keep kk (by omega), hst0.op.row, hst0.same.setRow _ _ (.inl (by omega)), hst0.ne⟩
    refine plan_do (by rfl) (wp_store_row 35 (.tmp 5) (.tmp 17) rfl G (opCells (n0 : Nat) (n1 : Nat) (n2 : Nat) ⟨#[]⟩ ⟨#[]⟩ (.slice none 0 0)).toArray (by rfl) (by rfl) 35 op0.toArray hcell HIO.out rfl (op_all _ _ _ _ _ _ _ _) ?_)
    obtain ⟨w4, hw4⟩ : ∃ w4, w3.setRow G (opCells (n0 : Nat) (n1 : Nat) (n2 : Nat) ⟨#[]⟩ ⟨#[]⟩ (.slice none 0 0)).toArray = w4 := ⟨_, rfl⟩
    rw [hw4] at hst ⊢
    have HST := Lib.hid hst
    clear hst hst0 hcell hk hw4 HE3 HP2 HR2 HY2 HK2 hrow hB4 hG
    obtain ⟨p1, hp1⟩ : ∃ p1, txtAt bs i3 = p1 := ⟨_, rfl⟩
    obtain ⟨i4, hi4⟩ : ∃ i4, txtTo bs i3 = i4 := ⟨_, rfl⟩
    obtain ⟨p2, hp2⟩ : ∃ p2, txtAt bs i4 = p2 := ⟨_, rfl⟩
    obtain ⟨i5, hi5⟩ : ∃ i5, txtTo bs i4 = i5 := ⟨_, rfl⟩
    obtain ⟨ds, hds⟩ : ∃ ds, txtAt bs i5 = ds := ⟨_, rfl⟩
    go_wp2_with (first
      | (refine wpList_load_row (by rfl) 108 _ (by rfl) B4 (by rfl) 108 #[.pointer (some ⟨E, 0, none⟩)] (0, 0) _ HST.out.rdr Tryd.underlying108 rfl HIR.out ?_))
    ((with_reducible refine (rtext_w E bs i3 _ HST.out.eye hl).mono ?_); rintro e w5 ⟨r, rfl, hy5, ho5, hk5⟩)
    rw [hi4] at hy5
    rw [hp1] at ho5
    have HS5 := Lib.hid (HST.out.call hk5 hy5)
    have c5 := run_reads (Reads.of_own ho5 rfl)
    have f5 := HS5.out.op.cell (i := 1) rfl
    have g5 := HS5.out.op.free 1
    have HS6 : Hid (RSt w (w5.setCell ⟨G, 1, none⟩ (.string ⟨p1.toArray⟩)) E yv bs i4 B4 G (opCells (n0 : Nat) (n1 : Nat) (n2 : Nat) ⟨p1.toArray⟩ ⟨#[]⟩ (.slice none 0 0))) := Lib.hid (HS5.out.set 1 _)
    clear hy5 ho5 hk5 HST
    go_wp2_with (first
      | (refine wpList_load_row (by rfl) 108 _ (by rfl) B4 (by rfl) 108 #[.pointer (some ⟨E, 0, none⟩)] (0, 0) _ HS6.out.rdr Tryd.underlying108 rfl HIR.out ?_))
    ((with_reducible refine (rtext_w E bs i4 _ HS6.out.eye hl).mono ?_); rintro e w7 ⟨r, rfl, hy7, ho7, hk7⟩)
    rw [hi5] at hy7
    rw [hp2] at ho7
    have HS7 := Lib.hid (HS6.out.call hk7 hy7)
    have c7 := run_reads (Reads.of_own ho7 rfl)
    have f7 := HS7.out.op.cell (i := 2) rfl
    have g7 := HS7.out.op.free 2
    have HS8 : Hid (RSt w (w7.setCell ⟨G, 2, none⟩ (.string ⟨p2.toArray⟩)) E yv bs i5 B4 G (opCells (n0 : Nat) (n1 : Nat) (n2 : Nat) ⟨p1.toArray⟩ ⟨p2.toArray⟩ (.slice none 0 0))) := Lib.hid (HS7.out.set 2 _)
    clear hy7 ho7 hk7 c5 f5 g5 HS5 HS6
    go_wp2_with (first
      | (refine wpList_load_row (by rfl) 108 _ (by rfl) B4 (by rfl) 108 #[.pointer (some ⟨E, 0, none⟩)] (0, 0) _ HS8.out.rdr Tryd.underlying108 rfl HIR.out ?_))
    ((with_reducible refine (rtext_w E bs i5 _ HS8.out.eye hl).mono ?_); rintro e w9 ⟨r, rfl, hy9, ho9, hk9⟩)
    rw [hds] at ho9
    have HS9 := Lib.hid (HS8.out.call hk9 hy9)
    have f9 := HS9.out.op.cell (i := 5) rfl
    have g9 := HS9.out.op.free 5
    have hHr : Reads (w9.setCell ⟨G, 5, none⟩ r) r ds := Reads.of_own (own_keeps (S := fun q => q = G) ((Keeps.refl _ _).setCell _ _ (.inr rfl)) ho9 (fun k e e2 => by have := (ho9.lt k e).1; have := HS8.out.op.lt; omega)) rfl
    have HS10 : Hid (RSt w (w9.setCell ⟨G, 5, none⟩ r) E yv bs (txtTo bs i5) B4 G (opCells (n0 : Nat) (n1 : Nat) (n2 : Nat) ⟨p1.toArray⟩ ⟨p2.toArray⟩ r)) := Lib.hid (HS9.out.set 5 _)
    obtain ⟨ro, rc, rfl, hbr, hsr, hcr⟩ := hHr
    have HRO : Hid (∀ a n c, Value.slice ro ds.length rc = .slice (some a) n c → ¬ a.block = w.heap.size) := Lib.hid (by
      intro a n c e
      simp only [Value.slice.injEq] at e
      have h1 := (ho9.lt a.block (by rw [e.1]; rfl)).1
      have h2 := HS8.out.res.lt
      omega)
    have HRB : Hid ((∀ a n c, Value.slice ro ds.length rc = .slice (some a) n c → w.heap.size ≤ a.block) ∧ ∀ ao n c, Value.slice ro ds.length rc = .slice ao n c → c ≤ 9223372036854775807) := Lib.hid (by
      refine ⟨fun a n c e => ?_, fun ao n c e => ?_⟩
      · simp only [Value.slice.injEq] at e
        have h1 := (ho9.lt a.block (by rw [e.1]; rfl)).1
        have h2 := HS8.out.res.lt
        omega
      · exact (own_capv ho9 _ _ _ e).2)
    have HBR := Lib.hid hbr
    have HSR := Lib.hid hsr
    obtain ⟨w10, hw10⟩ : ∃ w10, w9.setCell ⟨G, 5, none⟩ (.slice ro ds.length rc) = w10 := ⟨_, rfl⟩
    rw [hw10] at HBR HS10
    have HNO : Hid (¬ (OpRight (n0 : Nat) (n1 : Nat) (n2 : Nat) ⟨p1.toArray⟩ ⟨p2.toArray⟩ ds.length ∧ opBytes (n0 : Nat) (n1 : Nat) (n2 : Nat) ⟨p1.toArray⟩ ⟨p2.toArray⟩ ds = bs) → ∀ k off n p t ds', OpRight k off n p t (List.length ds') → opBytes k off n p t ds' ≠ bs) := Lib.hid (by
      intro hno k off n p t ds' hr hb
      obtain ⟨q0, q1, q2, q3, q4, q5, _⟩ := rd_of_op hr hb i1 i2 i3 i4 i5 hi1 hi2 hi3 hi4 hi5
      rw [hn0] at q0
      rw [hn1] at q1
      rw [hn2] at q2
      rw [hp1] at q3
      rw [hp2] at q4
      rw [hds] at q5
      have r1 : (⟨p1.toArray⟩ : ByteArray) = p := sb_inj (by rw [sb_mk, q3])
      have r2 : (⟨p2.toArray⟩ : ByteArray) = t := sb_inj (by rw [sb_mk, q4])
      rw [q0, q1, q2, r1, r2, q5] at hno
      exact hno ⟨hr, hb⟩)
    clear hy9 ho9 hk9 c7 f7 g7 HS7 HS8 hbr hsr hn0 hn1 hn2 hi1 hi2 hi3 hi4 hi5 hp1 hp2 hds HS9
    go_wp2_with (first
      | (refine wpList_load_row (by rfl) 35 _ (by rfl) G (by rfl) 35 (opCells (n0 : Nat) (n1 : Nat) (n2 : Nat) ⟨p1.toArray⟩ ⟨p2.toArray⟩ (.slice ro ds.length rc)).toArray (0, 0) _ HS10.out.op Tryd.underlying35 rfl HIO.out ?_))
    have HW10 := Lib.hid hw10
    clear hw10
    by_cases hR : OpRight (n0 : Nat) (n1 : Nat) (n2 : Nat) ⟨p1.toArray⟩ ⟨p2.toArray⟩ ds.length
    case neg =>
      refine (write_no (n0 : Nat) (n1 : Nat) (n2 : Nat) ⟨p1.toArray⟩ ⟨p2.toArray⟩ ro ds.length rc _ hR).mono ?_
      rintro e w11 ⟨rfl, hk11⟩
      have HS11 := Lib.hid (HS10.out.keep hk11)
      have HRN := Lib.hid hR
      have HEND : Hid (Same w (w11.setRow w.heap.size op0.toArray) ∧ Whole (w11.setRow w.heap.size op0.toArray) w.heap.size 35 op0) := Lib.hid
        ⟨HS11.out.same.setRow _ _ (.inl (Nat.le_refl _)), HS11.out.res.row⟩
      clear hR hk11
      go_wp2_with (first
        | (refine wpList_buildTo (by rfl) 35 _ (by rfl) _ (by rfl) op0.toArray (by kernel_rfl) ?_)
        | (refine wpList_store_row (by rfl) 35 _ _ (by rfl) w.heap.size op0.toArray (by rfl) (by rfl) 35 op0.toArray HS11.out.res HIO.out rfl (op_all _ _ _ _ _ _ _ _) ?_))
      refine bodyPost_ret (v := .tuple #[.agg op0.toArray, .int .i64 22]) (results_row_tmp (p := 2) (u := 3) (ty := 35) rfl _ _ w.heap.size 35 _ (0, 0) _ (by rfl) HEND.out.2 Tryd.underlying35 rfl HIO.out) rfl
        ⟨HEND.out.1, 0, 0, 0, ⟨#[]⟩, ⟨#[]⟩, [], .slice none 0 0, 22, rfl, Reads.nil _ _ _, .inr ⟨HNO.out (fun h => HRN.out h.1), rfl, rfl, rfl, rfl, rfl, rfl, rfl⟩, fun a n c e => by simp at e, fun ao n c e => by simp at e; omega⟩
    refine (write_yes (n0 : Nat) (n1 : Nat) (n2 : Nat) ⟨p1.toArray⟩ ⟨p2.toArray⟩ ro rc ds _ hR HBR.out).mono ?_
    rintro e w11 ⟨v, rfl, ho11, hk11⟩
    obtain ⟨vo, vc, rfl, hb11, hs11, hc11⟩ := Reads.of_own ho11 rfl
    have HS11 := Lib.hid (HS10.out.keep hk11)
    have HEQ := Lib.hid (bytesEqual_any vo ao _ bs vc c w11 hb11 (HX.out.same HS11.out.same) hs11 HSP.out)
    have HBR11 : Hid (Reads w11 (.slice ro ds.length rc) ds) := Lib.hid ⟨ro, rc, rfl, HBR.out.same hk11, HSR.out, hcr⟩
    have HRY := Lib.hid hR
    obtain ⟨X, hX⟩ : ∃ X, opBytes (n0 : Nat) (n1 : Nat) (n2 : Nat) ⟨p1.toArray⟩ ⟨p2.toArray⟩ ds = X := ⟨_, rfl⟩
    rw [hX] at HEQ HNO ⊢
    have HXX := Lib.hid hX
    clear ho11 hb11 hs11 hc11 hk11 hR hX
    by_cases hE : X = bs
    · rw [decide_eq_true hE] at HEQ
      have HE := Lib.hid hE
      have HEND : Hid (Same w (w11.setRow w.heap.size (opCells (n0 : Nat) (n1 : Nat) (n2 : Nat) ⟨p1.toArray⟩ ⟨p2.toArray⟩ (.slice ro ds.length rc)).toArray) ∧ Whole (w11.setRow w.heap.size (opCells (n0 : Nat) (n1 : Nat) (n2 : Nat) ⟨p1.toArray⟩ ⟨p2.toArray⟩ (.slice ro ds.length rc)).toArray) w.heap.size 35 (opCells (n0 : Nat) (n1 : Nat) (n2 : Nat) ⟨p1.toArray⟩ ⟨p2.toArray⟩ (.slice ro ds.length rc)) ∧
          Reads (w11.setRow w.heap.size (opCells (n0 : Nat) (n1 : Nat) (n2 : Nat) ⟨p1.toArray⟩ ⟨p2.toArray⟩ (.slice ro ds.length rc)).toArray) (.slice ro ds.length rc) ds) := Lib.hid
        ⟨HS11.out.same.setRow _ _ (.inl (Nat.le_refl _)), HS11.out.res.row, by
          obtain ⟨_, _, e, h1, h2⟩ := HBR11.out
          exact ⟨_, _, e, h1.keeps (S := fun q => q = w.heap.size) ((Keeps.refl _ _).setRow _ _ (.inr rfl)) (fun a n c e2 e3 => HRO.out a n c e2 e3), h2⟩⟩
      clear hE
      go_wp2_with fail
      ((with_reducible refine HEQ.out.mono ?_); rintro e w12 ⟨rfl, h12⟩)
      subst h12
      go_wp2_with (first
        | (refine wpList_load_row (by rfl) 35 _ (by rfl) G (by rfl) 35 (opCells (n0 : Nat) (n1 : Nat) (n2 : Nat) ⟨p1.toArray⟩ ⟨p2.toArray⟩ (.slice ro ds.length rc)).toArray (0, 0) _ HS11.out.op Tryd.underlying35 rfl HIO.out ?_)
        | (refine wpList_store_row (by rfl) 35 _ _ (by rfl) w.heap.size (opCells (n0 : Nat) (n1 : Nat) (n2 : Nat) ⟨p1.toArray⟩ ⟨p2.toArray⟩ (.slice ro ds.length rc)).toArray (by rfl) (by rfl) 35 op0.toArray HS11.out.res HIO.out rfl (op_all _ _ _ _ _ _ _ _) ?_))
      refine bodyPost_ret (v := .tuple #[.agg (opCells (n0 : Nat) (n1 : Nat) (n2 : Nat) ⟨p1.toArray⟩ ⟨p2.toArray⟩ (.slice ro ds.length rc)).toArray, .int .i64 0]) (results_row_tmp (p := 2) (u := 3) (ty := 35) rfl _ _ w.heap.size 35 _ (0, 0) _ (by rfl) HEND.out.2.1 Tryd.underlying35 rfl HIO.out) rfl
        ⟨HEND.out.1, n0, n1, n2, ⟨p1.toArray⟩, ⟨p2.toArray⟩, ds, .slice ro ds.length rc, 0, rfl, HEND.out.2.2, .inl ⟨HRY.out, HXX.out.trans HE.out, rfl⟩, HRB.out.1, HRB.out.2⟩
    · rw [decide_eq_false hE] at HEQ
      have HE := Lib.hid hE
      have HEND : Hid (Same w (w11.setRow w.heap.size op0.toArray) ∧ Whole (w11.setRow w.heap.size op0.toArray) w.heap.size 35 op0) := Lib.hid
        ⟨HS11.out.same.setRow _ _ (.inl (Nat.le_refl _)), HS11.out.res.row⟩
      clear hE
      go_wp2_with fail
      ((with_reducible refine HEQ.out.mono ?_); rintro e w12 ⟨rfl, h12⟩)
      subst h12
      go_wp2_with (first
        | (refine wpList_buildTo (by rfl) 35 _ (by rfl) _ (by rfl) op0.toArray (by kernel_rfl) ?_)
        | (refine wpList_store_row (by rfl) 35 _ _ (by rfl) w.heap.size op0.toArray (by rfl) (by rfl) 35 op0.toArray HS11.out.res HIO.out rfl (op_all _ _ _ _ _ _ _ _) ?_))
      refine bodyPost_ret (v := .tuple #[.agg op0.toArray, .int .i64 22]) (results_row_tmp (p := 2) (u := 3) (ty := 35) rfl _ _ w.heap.size 35 _ (0, 0) _ (by rfl) HEND.out.2 Tryd.underlying35 rfl HIO.out) rfl
        ⟨HEND.out.1, 0, 0, 0, ⟨#[]⟩, ⟨#[]⟩, [], .slice none 0 0, 22, rfl, Reads.nil _ _ _, .inr ⟨HNO.out (fun h => HE.out h.2), rfl, rfl, rfl, rfl, rfl, rfl, rfl⟩, fun a n c e => by simp at e, fun ao n c e => by simp at e; omega⟩
theorem opRead_any (ao : Option Addr) (c : Nat) (bs : List UInt8) (w : World) (hx : Bytes w (.slice ao bs.length c) bs) (hsp : ∀ x, ao = some x → bs ≠ [] → x.spot = none) (hc : bs.length ≤ c) (hl : bs.length ≤ 140737488351232) (hcn : ao = none → c = 0) :
    Calls Tryd.prog 45 #[.slice ao bs.length c] w fun e w' => Same w w' ∧ ∃ k off n p t ds v er, e = .returned (.tuple #[opVal k off n p t v, .int .i64 er]) ∧ Reads w' v ds ∧ OpIs bs k off n p t ds er :=
  (opRead_own ao c bs w hx hsp hc hl hcn).mono fun e w' ⟨hk, k, off, n, p, t, ds, v, er, h1, h2, h3, _⟩ => ⟨hk, k, off, n, p, t, ds, v, er, h1, h2, h3⟩
end Go.Proofs.YtafgiljgefeefaaDoor
