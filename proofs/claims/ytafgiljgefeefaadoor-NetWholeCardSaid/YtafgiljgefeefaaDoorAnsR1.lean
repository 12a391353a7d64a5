/- What oper.ReadAnswer does (under way). -/
import Derived.Test.YtafgiljgefeefaaDoorOpR2
import Derived.Test.YtafgiljgefeefaaDoorOpR1
import Derived.Test.YtafgiljgefeefaaDoorEqual
import Derived.Test.YtafgiljgefeefaaDoorWhole
import Derived.Test.YtafgiljgefeefaaDoorRdNames
import Derived.Test.YtafgiljgefeefaaDoorPlan5
namespace Go.Proofs.YtafgiljgefeefaaDoor
open Go.RowKit
set_option linter.unusedVariables false

def ansCells (c n : Int) (x y : Value) : List Value := [.int .i64 c, .int .i64 n, x, y]
def ans0 : List Value := ansCells 0 0 (.slice none 0 0) (.slice none 0 0)
theorem ans_all (c n : Int) (ao bo : Option Addr) (l cp l2 cp2 : Nat) : (ansCells c n (.slice ao l cp) (.slice bo l2 cp2)).toArray.all (·.oneCell') = true := by simp [ansCells, Value.oneCell']
theorem Tryd.zeroAns (w : World) : (zeroValue 41).run Tryd.prog w = .ok (.agg ans0.toArray) w := by kernel_rfl
theorem Tryd.sizeAns : (Tryd.prog.info? 41).map (·.size) = some 4 := by kernel_rfl
/-- What bytes are as an answer, and the error's number. -/
def AnsIs (bs : List UInt8) (c n : Int) (ds : List UInt8) (ss : List ByteArray) (er : Int) : Prop :=
  (AnsRight c n ds.length ss ∧ ansBytes c n ds ss = bs ∧ er = 0) ∨
  ((∀ c n ds ss, AnsRight c n (List.length ds) ss → ansBytes c n ds ss ≠ bs) ∧ c = 0 ∧ n = 0 ∧ ds = [] ∧ ss = [] ∧ er = 22)

/-- What stands where oper.Read reads. -/
structure ASt10 (w w' : World) (E : Nat) (yv : Value) (bs : List UInt8) (i B4 G : Nat) (cs : List Value) : Prop where
  eye : EyeW (w.alloc (.cells ans0.toArray 41)) w' E yv bs i
  rdr : Whole w' B4 108 [.pointer (some ⟨E, 0, none⟩)]
  res : Whole w' w.heap.size 41 ans0
  op : Whole w' G 41 cs
  same : Same w w'
  ne : w.heap.size < E ∧ E < B4 ∧ B4 < G ∧ ∀ j, yv.ownBlock = some j → j ≠ G
theorem ASt10.call {w w' w'' : World} {E i j B4 G : Nat} {yv : Value} {bs : List UInt8} {cs : List Value} (h : ASt10 w w' E yv bs i B4 G cs) (k : Keeps (fun k => k = E) w' w'') (hy : EyeW (w.alloc (.cells ans0.toArray 41)) w'' E yv bs j) : ASt10 w w'' E yv bs j B4 G cs := by
  obtain ⟨n1, n2, n3, n4⟩ := h.ne
  exact ⟨hy, h.rdr.keep k (by omega), h.res.keep k (by omega), h.op.keep k (by omega), h.same.trans k (fun q hq e => by omega), n1, n2, n3, n4⟩
theorem ASt10.set {w w' : World} {E i B4 G : Nat} {yv : Value} {bs : List UInt8} {cs : List Value} (h : ASt10 w w' E yv bs i B4 G cs) (q : Nat) (v : Value) : ASt10 w (w'.setCell ⟨G, q, none⟩ v) E yv bs i B4 G (cs.set q v) := by
  obtain ⟨n1, n2, n3, n4⟩ := h.ne
  exact ⟨h.eye.keep' (S := fun q => q = G) ((Keeps.refl _ _).setCell _ _ (.inr rfl)) (by omega) (fun j e e2 => n4 j e e2) (fun j e => by simp; omega), h.rdr.far _ (by simp only; omega) _, h.res.far _ (by simp only; omega) _, h.op.set q v, h.same.setCell _ _ (.inl (by simp only; omega)), n1, n2, n3, n4⟩
theorem ASt10.keep {w w' w'' : World} {E i B4 G : Nat} {yv : Value} {bs : List UInt8} {cs : List Value} (h : ASt10 w w' E yv bs i B4 G cs) (k : Same w' w'') : ASt10 w w'' E yv bs i B4 G cs :=
  ⟨h.eye.same' k, h.rdr.keep k (fun e => e), h.res.keep k (fun e => e), h.op.keep k (fun e => e), h.same.trans k (fun _ _ e => e), h.ne⟩

theorem reads_past {w w' : World} {B : Nat} {v : Value} {b : List UInt8} (h : Reads w v b) (hb : ∀ a n c, v = .slice (some a) n c → b ≠ [] → a.block ≠ B) (k : Keeps (fun k => k = B) w w') : Reads w' v b := by
  obtain ⟨ao, c, e, h1, h2⟩ := h
  refine ⟨ao, c, e, ?_, h2⟩
  by_cases hn : b = []
  · subst hn; rw [e]; exact Bytes.nil _ _ _
  · exact h1.keeps k (fun a n c e2 e3 => hb a n c e2 hn e3)
theorem reads_far {S : Nat → Prop} {w0 w w' : World} {v : Value} {b : List UInt8} (h0 : Reads w0 v b) (h : Reads w v b) (k : Keeps S w w') (hs : ∀ q, S q → w0.heap.size ≤ q) : Reads w' v b := by
  obtain ⟨ao, c, e, h1, h2⟩ := h
  refine ⟨ao, c, e, ?_, h2⟩
  by_cases hn : b = []
  · subst hn; rw [e]; exact Bytes.nil _ _ _
  · obtain ⟨ao', c', e', h1', _⟩ := h0
    refine h1.keeps k (fun a n c2 e2 e3 => ?_)
    rw [e2] at h1'
    have := h1'.lt hn
    have := hs _ e3
    omega
/-- Bytes don't lie in an empty answer's block. -/
theorem reads_ne_ans {w : World} {r : Value} {ds : List UInt8} {G : Nat} {t : TypeId} (h : Reads w r ds) (hg : w.heap[G]? = some (.cells ans0.toArray t (0, 0))) : ∀ a n c, r = .slice (some a) n c → ds ≠ [] → a.block ≠ G := by
  intro a n c e hn hb
  obtain ⟨ao, c', e1, h1, h2, _⟩ := h
  rw [e] at e1
  simp only [Value.slice.injEq] at e1
  have hsp := h2 a e1.1.symm hn
  rw [e] at h1
  rcases h1 with ⟨a', c2, h3, hc⟩ | ⟨c2, h3, _⟩
  · simp only [Value.slice.injEq, Option.some.injEq] at h3
    obtain ⟨rfl, _, _⟩ := h3
    obtain ⟨b, bs, rfl⟩ := List.exists_cons_of_ne_nil hn
    have h4 := hc 0 (.int .u8 (b.toNat : Int)) (by simp [u8s])
    obtain ⟨blk, off, sp⟩ := a
    simp only at hb hsp
    subst hb; subst hsp
    have h5 : (⟨blk, off, none⟩ : Addr).add 0 = ⟨blk, off, none⟩ := by simp [Addr.add]
    rw [h5] at h4
    simp only [World.cell?, hg] at h4
    simp [ans0, ansCells] at h4
    rcases off with _ | _ | _ | _ | off <;> simp at h4
  · simp at h3

/-- A text that lies in blocks from lo on. -/
def freshR (b : List UInt8) : Nat → World → Value → Prop := fun lo w r => Reads w r b ∧ (∀ a n c, r = .slice (some a) n c → lo ≤ a.block) ∧ ∀ ao n c, r = .slice ao n c → c ≤ 9223372036854775807
theorem freshR_keep (b : List UInt8) (Sx : Nat → Prop) (lo : Nat) (w w' : World) (v : Value) (hlo : ∀ k, Sx k → k < lo) (h : freshR b lo w v) (k : Keeps Sx w w') : freshR b lo w' v := by
  obtain ⟨⟨ao, c, e, h1, h2⟩, h3⟩ := h
  exact ⟨⟨ao, c, e, h1.keeps k (fun a n c e hs => by have := h3.1 a n c e; have := hlo _ hs; omega), h2⟩, h3⟩
def freshA (f : Value → Value) (b : List UInt8) : Nat → World → Value → Prop := fun lo w v => ∃ r, v = f r ∧ freshR b lo w r
theorem freshA_keep (f : Value → Value) (b : List UInt8) (Sx : Nat → Prop) (lo : Nat) (w w' : World) (v : Value) (hlo : ∀ k, Sx k → k < lo) (h : freshA f b lo w v) (k : Keeps Sx w w') : freshA f b lo w' v := by
  obtain ⟨r, e, h1⟩ := h
  exact ⟨r, e, freshR_keep b Sx lo w w' r hlo h1 k⟩
set_option maxRecDepth 100000 in
set_option maxHeartbeats 3200000 in
theorem ansRead_own (ao : Option Addr) (c : Nat) (bs : List UInt8) (w : World) (hx : Bytes w (.slice ao bs.length c) bs) (hsp : ∀ x, ao = some x → bs ≠ [] → x.spot = none) (hc : bs.length ≤ c) (hl : bs.length ≤ 140737488351232) (hcn : ao = none → c = 0) :
    Calls Tryd.prog 46 #[.slice ao bs.length c] w fun e w' => Same w w' ∧ ∃ cc n ds ss v no ncap er, e = .returned (.tuple #[ansVal cc n v (.slice no ss.length ncap), .int .i64 er]) ∧ Reads w' v ds ∧ Strs w' (.slice no ss.length ncap) ss ∧ AnsIs bs cc n ds ss er ∧ (∀ a n c, v = .slice (some a) n c → w.heap.size ≤ a.block) ∧ (∀ a n c, Value.slice no ss.length ncap = .slice (some a) n c → w.heap.size ≤ a.block) ∧ (∀ ao n c, v = .slice ao n c → c ≤ 9223372036854775807) ∧ ncap ≤ 9223372036854775807 ∧ ss.length ≤ ncap := by
  have hzs := Tryd.zeroAns
  have HX := Lib.hid hx
  have HSP := Lib.hid hsp
  have HCN := Lib.hid hcn
  have HR0 : Hid (Whole (w.alloc (.cells ans0.toArray 41)) w.heap.size 41 ans0) := Lib.hid (heap_alloc_new w _)
  have HX0 : Hid (Bytes (w.alloc (.cells ans0.toArray 41)) (.slice ao bs.length c) bs) := Lib.hid (hx.same ((Keeps.refl _ _).alloc _))
  have h01 : w.heap.size < (w.alloc (.cells ans0.toArray 41)).heap.size := by simp
  clear hx hsp hcn
  go_enter Tryd.func46, Tryd.ntmps46
  go_wp2_with fail
  ((with_reducible refine (neweye_w ao c bs _ HX0.out hc hl HCN.out).mono ?_); rintro e w1 ⟨E, yv, rfl, hy1⟩)
  have hR1 : Whole w1 w.heap.size 41 ans0 := HR0.out.keep hy1.same (fun e => e)
  have hE : w.heap.size < E := by have := hy1.new; omega
  have hEl := hy1.lt
  have hk1 : Same w w1 := ((Keeps.refl _ _).alloc _).trans hy1.same (fun _ _ e => e)
  have HY1 := Lib.hid hy1
  have HR1 := Lib.hid hR1
  have HK1 := Lib.hid hk1
  clear hy1 hR1 hk1 HR0 HX0 HCN h01
  go_wp2_with fail
  have hz2 : (w1.alloc (.cells #[.pointer (some ⟨E, 0, none⟩)] 108)).heap.size = w1.heap.size + 1 := by simp
  obtain ⟨w2, hw2⟩ : ∃ w2, w1.alloc (.cells #[.pointer (some ⟨E, 0, none⟩)] 108) = w2 := ⟨_, rfl⟩
  have hk12 : Same w1 w2 := by rw [← hw2]; exact (Keeps.refl _ _).alloc _
  have HP2 : Hid (Whole w2 w1.heap.size 108 [.pointer (some ⟨E, 0, none⟩)]) := Lib.hid (by rw [← hw2]; exact heap_alloc_new w1 _)
  rw [hw2] at hz2 ⊢
  have HY2 := Lib.hid (HY1.out.same' hk12)
  have HR2 := Lib.hid (HR1.out.keep hk12 (fun e => e))
  have HK2 : Hid (Same w w2) := Lib.hid (HK1.out.trans hk12 (fun _ _ e => e))
  have hB4 : E < w1.heap.size ∧ w1.heap.size < w2.heap.size := ⟨hEl, by omega⟩
  clear hk12 hw2 hz2 HY1 HR1 HK1
  generalize hB : w1.heap.size = B4 at *
  obtain ⟨n0, hn0⟩ : ∃ n0, numAt bs 0 2 = n0 := ⟨_, rfl⟩
  obtain ⟨i1, hi1⟩ : ∃ i1, numTo bs 0 2 = i1 := ⟨_, rfl⟩
  obtain ⟨n1, hn1⟩ : ∃ n1, numAt bs i1 2 = n1 := ⟨_, rfl⟩
  obtain ⟨i2, hi2⟩ : ∃ i2, numTo bs i1 2 = i2 := ⟨_, rfl⟩
  obtain ⟨ds, hds⟩ : ∃ ds, txtAt bs i2 = ds := ⟨_, rfl⟩
  obtain ⟨i3, hi3⟩ : ∃ i3, txtTo bs i2 = i3 := ⟨_, rfl⟩
  have HIR := Lib.hid Tryd.sizeReader
  have HIO := Lib.hid Tryd.sizeAns
  refine wp_region_chain [[], [0], [], [2, 1], [], [4, 3], [1, 3, 5], [], [7, 6, 5, 0, 1, 2, 3, 4, 5, 6, 7]]
    [some 11, some 12, some 13, some 14, some 15, some 16, some 17, some 5, none]
    [.is (.agg #[.pointer (some ⟨E, 0, none⟩)]), .is (.int .i64 (n0 : Nat)), .is (.agg #[.pointer (some ⟨E, 0, none⟩)]), .is (.int .i64 (n1 : Nat)), .is (.agg #[.pointer (some ⟨E, 0, none⟩)]), .ex (freshR ds) (freshR_keep ds),
      .ex (freshA (fun r => .agg (ansCells (n0 : Nat) (n1 : Nat) r (.slice none 0 0)).toArray) ds) (freshA_keep _ ds), .fresh 41 ans0.toArray, .any]
    (fun k => k = E) [1, 3, 5] (fun q w' => EyeW (w.alloc (.cells ans0.toArray 41)) w' E yv bs ([0, i1, i2, i3].getD q 0)) 2 _ _ 46 9 (by kernel_rfl) (by rfl) (by rfl) (by omega) (by kernel_rfl) (by kernel_rfl) (by decide) (by decide) (fun k e => by omega) HY2.out (fun _ _ _ h k => h.same' k) ?_
  refine ⟨?_, ?_, ?_, ?_, ?_, ?_, ?_, ?_, ?_⟩
  · intro a w' K hk hdep hfr hK
    have f := hfr 4 (by decide)
    exact plan_do (by rfl) (wp_load_row 108 (.tmp 4) rfl B4 ((eval_tmp _ _).trans f) 108 #[.pointer (some ⟨E, 0, none⟩)] (0, 0) _ (HP2.out.keep hk (by omega)) Tryd.underlying108 rfl HIR.out (hK _ _ (Keeps.refl _ _) rfl))
  · intro a w' K hk hdep hfr hE hK
    have e : a.tmps[11]?.getD undef = .agg #[.pointer (some ⟨E, 0, none⟩)] := hdep 0 (by decide) 11 rfl
    refine plan_do (by rfl) (plan_call 59 #[.agg #[.pointer (some ⟨E, 0, none⟩)], .int .i64 2] (by go_simp) ?_)
    exact (rnum_w E bs 0 2 2 w' hE hl (by omega) (by omega) (by omega)).mono fun e w'' ⟨he, hy, hk2⟩ => ⟨_, he, hK _ _ hk2 (by rw [hi1] at hy; exact hy) (by rw [hn0]; rfl)⟩
  · intro a w' K hk hdep hfr hK
    have f := hfr 4 (by decide)
    exact plan_do (by rfl) (wp_load_row 108 (.tmp 4) rfl B4 ((eval_tmp _ _).trans f) 108 #[.pointer (some ⟨E, 0, none⟩)] (0, 0) _ (HP2.out.keep hk (by omega)) Tryd.underlying108 rfl HIR.out (hK _ _ (Keeps.refl _ _) rfl))
  · intro a w' K hk hdep hfr hE hK
    have e : a.tmps[13]?.getD undef = .agg #[.pointer (some ⟨E, 0, none⟩)] := hdep 2 (by decide) 13 rfl
    refine plan_do (by rfl) (plan_call 59 #[.agg #[.pointer (some ⟨E, 0, none⟩)], .int .i64 2] (by go_simp) ?_)
    exact (rnum_w E bs i1 2 2 w' hE hl (by omega) (by omega) (by omega)).mono fun e w'' ⟨he, hy, hk2⟩ => ⟨_, he, hK _ _ hk2 (by rw [hi2] at hy; exact hy) (by rw [hn1]; rfl)⟩
  · intro a w' K hk hdep hfr hK
    have f := hfr 4 (by decide)
    exact plan_do (by rfl) (wp_load_row 108 (.tmp 4) rfl B4 ((eval_tmp _ _).trans f) 108 #[.pointer (some ⟨E, 0, none⟩)] (0, 0) _ (HP2.out.keep hk (by omega)) Tryd.underlying108 rfl HIR.out (hK _ _ (Keeps.refl _ _) rfl))
  · intro a w' K hk hdep hfr hE hK
    have e : a.tmps[15]?.getD undef = .agg #[.pointer (some ⟨E, 0, none⟩)] := hdep 4 (by decide) 15 rfl
    refine plan_do (by rfl) (plan_call 60 #[.agg #[.pointer (some ⟨E, 0, none⟩)]] (by go_simp) ?_)
    refine (rtext_w E bs i2 w' hE hl).mono fun e w'' ⟨r, he, hy, ho, hk2⟩ => ⟨_, he, hK _ _ hk2 (by rw [hi3] at hy; exact hy) ⟨?_, ?_, ?_⟩⟩
    · rw [hds] at ho; exact Reads.of_own ho rfl
    · intro a' n' c' e'
      have h1 := (ho.lt a'.block (by rw [e']; rfl)).1
      have h2 := hk.size
      omega
    · intro ao n c e
      exact (own_capv ho _ _ _ e).2
  · intro a w' K hk hdep hfr hK
    have e12 : a.tmps[12]?.getD undef = .int .i64 (n0 : Nat) := hdep 1 (by decide) 12 rfl
    have e14 : a.tmps[14]?.getD undef = .int .i64 (n1 : Nat) := hdep 3 (by decide) 14 rfl
    have h16 := hdep 5 (by decide) 16 rfl
    obtain ⟨r, e16⟩ : ∃ r, a.tmps[16]?.getD undef = r := ⟨_, rfl⟩
    rw [e16] at h16
    have H16 := Lib.hid h16
    obtain ⟨ro, rc, rfl, _⟩ := h16.1
    clear h16
    exact plan_do (by rfl) (plan_go (.agg (ansCells (n0 : Nat) (n1 : Nat) (.slice ro ds.length rc) (.slice none 0 0)).toArray) w' (by go_simp; rfl) (hK _ _ (Keeps.refl _ _) ⟨_, rfl, H16.out.1, H16.out.2⟩))
  · intro a w' K hk hdep hfr hK
    exact plan_do (by rfl) (plan_go (.pointer (some ⟨w'.heap.size, 0, none⟩)) (w'.alloc (.cells ans0.toArray 41)) (by go_simp) (hK _ _ ((Keeps.refl _ _).alloc _) ⟨_, rfl, hk.size, heap_alloc_new w' _⟩))
  · intro a w3 hk hdef hsz hv hfr hE3
    obtain ⟨r, e17, hr17, hb17, hb18⟩ : ∃ r, a.tmps[17]?.getD undef = .agg (ansCells (n0 : Nat) (n1 : Nat) r (.slice none 0 0)).toArray ∧ Reads w3 r ds ∧ (∀ a n c, r = .slice (some a) n c → w2.heap.size ≤ a.block) ∧ ∀ ao n c, r = .slice ao n c → c ≤ 9223372036854775807 := hv 6 17 (by omega) rfl
    obtain ⟨G, e5, hG, hcell⟩ : ∃ G, a.tmps[5]?.getD undef = .pointer (some ⟨G, 0, none⟩) ∧ w2.heap.size ≤ G ∧ w3.heap[G]? = some (.cells ans0.toArray 41 (0, 0)) := hv 7 5 (by omega) rfl
    obtain ⟨ro, rc, rfl, hbr, hsr, hcr⟩ := hr17
    have he := act_eq a _ [some 11, some 12, some 13, some 14, some 15, some 16, some 17, some 5, none] 46 rfl hsz hdef hfr (fun d => a.tmps[d]?.getD undef) (fun _ _ => rfl)
    obtain ⟨v11, h11⟩ : ∃ v, a.tmps[11]?.getD undef = v := ⟨_, rfl⟩
    obtain ⟨v12, h12⟩ : ∃ v, a.tmps[12]?.getD undef = v := ⟨_, rfl⟩
    obtain ⟨v13, h13⟩ : ∃ v, a.tmps[13]?.getD undef = v := ⟨_, rfl⟩
    obtain ⟨v14, h14⟩ : ∃ v, a.tmps[14]?.getD undef = v := ⟨_, rfl⟩
    obtain ⟨v15, h15⟩ : ∃ v, a.tmps[15]?.getD undef = v := ⟨_, rfl⟩
    obtain ⟨v16, h16⟩ : ∃ v, a.tmps[16]?.getD undef = v := ⟨_, rfl⟩
    simp only [putAll, h11, h12, h13, h14, h15, h16, e17, e5, List.setIfInBounds_toArray, List.set_cons_zero, List.set_cons_succ] at he
    have HE3 : Hid (EyeW (w.alloc (.cells ans0.toArray 41)) w3 E yv bs i3) := Lib.hid hE3
    clear h11 h12 h13 h14 h15 h16 e17 e5 hdef hsz hv hfr hE3
    subst he
    have hrow := HY2.out.row_lt
    have hst0 : ASt10 w w3 E yv bs i3 B4 G ans0 := ⟨HE3.out, HP2.out.keep hk (by omega), HR2.out.keep hk (by omega), hcell, HK2.out.trans hk (fun q hq e => by omega), by omega, hB4.1, by omega, fun j e => by have := hrow j e; omega⟩
    have hst : ASt10 w (w3.setRow G (ansCells (n0 : Nat) (n1 : Nat) (.slice ro ds.length rc) (.slice none 0 0)).toArray) E yv bs i3 B4 G (ansCells (n0 : Nat) (n1 : Nat) (.slice ro ds.length rc) (.slice none 0 0)) := by
      obtain ⟨m1, m2, m3, m4⟩ := hst0.ne
      have kk : Keeps (fun q => q = G) w3 (w3.setRow G (ansCells (n0 : Nat) (n1 : Nat) (.slice ro ds.length rc) (.slice none 0 0)).toArray) := (Keeps.refl _ _).setRow _ _ (.inr rfl)
      exact ⟨hst0.eye.keep' kk (by omega) m4 (fun j e => by simp; omega), hst0.rdr.keep kk (by omega), hst0.res.keep kk (by omega), hst0.op.row, hst0.same.setRow _ _ (.inl (by omega)), hst0.ne⟩
    refine plan_do (by rfl) (wp_store_row 41 (.tmp 5) (.tmp 17) rfl G (ansCells (n0 : Nat) (n1 : Nat) (.slice ro ds.length rc) (.slice none 0 0)).toArray (by rfl) (by rfl) 41 ans0.toArray hcell HIO.out rfl (ans_all _ _ _ _ _ _ _ _) ?_)
    obtain ⟨w4, hw4⟩ : ∃ w4, w3.setRow G (ansCells (n0 : Nat) (n1 : Nat) (.slice ro ds.length rc) (.slice none 0 0)).toArray = w4 := ⟨_, rfl⟩
    rw [hw4] at hst ⊢
    have HST := Lib.hid hst
    have HDG := Lib.hid (reads_ne_ans (⟨ro, rc, rfl, hbr, hsr, hcr⟩ : Reads w3 (.slice ro ds.length rc) ds) hcell)
    have HD4 : Hid (Reads w4 (.slice ro ds.length rc) ds) := Lib.hid (by rw [← hw4]; exact reads_past ⟨ro, rc, rfl, hbr, hsr, hcr⟩ HDG.out ((Keeps.refl _ _).setRow _ _ (.inr rfl)))
    have HDE : Hid (∀ a n c, Value.slice ro ds.length rc = .slice (some a) n c → ds ≠ [] → a.block ≠ E) := Lib.hid (fun a n c e _ => by have := hb17 a n c e; omega)
    have HDB : Hid ((∀ a n c, Value.slice ro ds.length rc = .slice (some a) n c → w.heap.size ≤ a.block) ∧ ∀ ao n c, Value.slice ro ds.length rc = .slice ao n c → c ≤ 9223372036854775807) := Lib.hid ⟨fun a n c e => by have := hb17 a n c e; omega, hb18⟩
    clear hb18
    obtain ⟨kk, hkk⟩ : ∃ kk, numAt bs i3 1 = kk := ⟨_, rfl⟩
    obtain ⟨i4, hi4⟩ : ∃ i4, numTo bs i3 1 = i4 := ⟨_, rfl⟩
    clear hst hst0 hcell hw4 HE3 HP2 HR2 HY2 HK2 hrow hB4 hG
    go_wp2_with (first
      | (refine wpList_load_row (by rfl) 108 _ (by rfl) B4 (by rfl) 108 #[.pointer (some ⟨E, 0, none⟩)] (0, 0) _ HST.out.rdr Tryd.underlying108 rfl HIR.out ?_))
    ((with_reducible refine (rnum_w E bs i3 1 1 _ HST.out.eye hl (by omega) (by omega) (by omega)).mono ?_); rintro e w5 ⟨rfl, hy5, hk5⟩)
    rw [hkk]
    rw [hi4] at hy5
    have HS5 := Lib.hid (HST.out.call hk5 hy5)
    have HD5 := Lib.hid (reads_past HD4.out HDE.out hk5)
    clear hy5 hk5 HST HD4 hbr hsr hcr hb17
    go_wp2_with fail
    obtain ⟨is, his, hq0, hq1, hq2⟩ : ∃ i, Tryd.prog.info? 9 = some i ∧ i.zero = some (.string ⟨#[]⟩) ∧ i.size = 1 ∧ i.bytes = 16 := info_parts (show (Tryd.prog.info? 9).map (fun i => (i.zero, i.size, i.bytes)) = some (some (.string ⟨#[]⟩), 1, 16) from by kernel_rfl)
    go_loopw [20] (fun i wr => ∃ (j : Nat) (x : Value), j ≤ kk ∧ i = .int .i64 j ∧ ASt10 w wr E yv bs (namesTo bs i4 j) B4 G (ansCells (n0 : Nat) (n1 : Nat) (.slice ro ds.length rc) x) ∧ wr.ownsRow w5.heap.size 9 1 x j ((namesAt bs i4 j).map Value.string) ∧ Reads wr (.slice ro ds.length rc) ds ∧ w5.heap.size ≤ wr.heap.size) (fun i _ => kk - (intOf i).toNat)
    case atStart => exact ⟨0, .slice none 0 0, by omega, rfl, HS5.out, World.ownsRow_nil _ _ _ _, HD5.out, Nat.le_refl _⟩
    case round =>
      obtain ⟨j, x, hj, rfl, hst, hown, hd, hsz⟩ := hrel
      have HST := Lib.hid hst
      have HOW := Lib.hid hown
      have HDD := Lib.hid hd
      have hGl := HS5.out.op.lt
      have hne := hst.ne
      clear hst hown hd
      by_cases hlt : j < kk
      · have hlt2 : (j : Int) < (kk : Int) := by omega
        go_wp2_with fail
        obtain ⟨ij, hij⟩ : ∃ ij, namesTo bs i4 j = ij := ⟨_, rfl⟩
        obtain ⟨s6, hs6⟩ : ∃ s6, txtAt bs ij = s6 := ⟨_, rfl⟩
        rw [hij] at HST
        have HCELL := Lib.hid (show ∀ w', Keeps (fun k => k = E) wr w' → w'.cell? ⟨G, 3, none⟩ = some x from fun w' k => (HST.out.op.keep k (by omega)).cell (i := 3) rfl)
        have hEl := HST.out.eye.lt
        refine wp_region_tail [[], [0], [], [2], [3], [4], [1, 5, 3], [0, 1, 2, 3, 4, 5, 6], [7, 6, 6, 0, 1, 2, 3, 4, 5, 6]]
          [some 22, some 23, some 24, some 25, some 26, some 27, some 28, some 29, none]
          [.is (.pointer (some ⟨G, 3, none⟩)), .is x, .is (.agg #[.pointer (some ⟨E, 0, none⟩)]), .reads s6, .is (.string ⟨s6.toArray⟩), .lit 9 #[.string ⟨s6.toArray⟩]]
          (fun k => k = E) [3] (fun q w' => EyeW (w.alloc (.cells ans0.toArray 41)) w' E yv bs ([ij, txtTo bs ij].getD q 0)) 5 _ _ 46 6 9 (by kernel_rfl) (by rfl) (by rfl) (by omega) (by kernel_rfl) (by kernel_rfl) (by decide) (by decide) (fun k e => by omega) HST.out.eye (fun _ _ _ h k => h.same' k) ?_ ?_
        · refine ⟨?_, ?_, ?_, ?_, ?_, ?_, trivial⟩
          · intro a w' K hk hdep hfr hK
            have f := hfr 5 (by decide)
            exact plan_do (by rfl) (plan_yield (i := 0) (V := fun _ _ v => v = (.pointer (some ⟨G, 3, none⟩) : Value)) (.pointer (some ⟨G, 3, none⟩)) (by go_simp) rfl hK)
          · intro a w' K hk hdep hfr hK
            have e22 : a.tmps[22]?.getD undef = .pointer (some ⟨G, 3, none⟩) := hdep 0 (by decide) 22 rfl
            have c3 := HCELL.out w' hk
            exact plan_do (by rfl) (plan_yield (i := 1) (V := fun _ _ v => v = x) x (by go_simp) rfl hK)
          · intro a w' K hk hdep hfr hK
            have f := hfr 4 (by decide)
            exact plan_do (by rfl) (wp_load_row 108 (.tmp 4) rfl B4 ((eval_tmp _ _).trans f) 108 #[.pointer (some ⟨E, 0, none⟩)] (0, 0) _ (HST.out.rdr.keep hk (by omega)) Tryd.underlying108 rfl HIR.out (hK _ _ (Keeps.refl _ _) rfl))
          · intro a w' K hk hdep hfr hE hK
            have e : a.tmps[24]?.getD undef = .agg #[.pointer (some ⟨E, 0, none⟩)] := hdep 2 (by decide) 24 rfl
            refine plan_do (by rfl) (plan_call 60 #[.agg #[.pointer (some ⟨E, 0, none⟩)]] (by go_simp) ?_)
            refine (rtext_w E bs ij w' hE hl).mono fun e w'' ⟨r, he, hy, ho, hk2⟩ => ⟨_, he, hK _ _ hk2 hy ⟨?_, ?_⟩⟩
            · rw [hs6] at ho; exact Reads.of_own ho rfl
            · intro a' n' c' e'
              have h1 := (ho.lt a'.block (by rw [e']; rfl)).1
              have h2 := hk.size
              omega
          · intro a w' K hk hdep hfr hK
            have r25 : Reads w' (a.tmps[25]?.getD undef) s6 := (hdep 3 (by decide) 25 rfl).1
            have k := run_reads r25
            exact plan_do (by rfl) (plan_yield (i := 4) (V := fun _ _ v => v = (.string ⟨s6.toArray⟩ : Value)) (.string ⟨s6.toArray⟩) (by go_simp) rfl hK)
          · intro a w' K hk hdep hfr hK
            have e26 : a.tmps[26]?.getD undef = .string ⟨s6.toArray⟩ := hdep 4 (by decide) 26 rfl
            exact plan_do (by rfl) (plan_go (.slice (some ⟨w'.heap.size, 0, none⟩) 1 1) (w'.alloc (.cells #[.string ⟨s6.toArray⟩] 9)) (by go_simp) (hK _ _ ((Keeps.refl _ _).alloc _) ⟨w'.heap.size, rfl, hk.size, heap_alloc_new w' _⟩))
        intro a w6 hk hdef hsz6 hv hfr hE6
        have e23 : a.tmps[23]?.getD undef = x := hv 1 23 (by omega) rfl
        obtain ⟨L, e27, hL, hlit⟩ : ∃ L, a.tmps[27]?.getD undef = .slice (some ⟨L, 0, none⟩) 1 1 ∧ wr.heap.size ≤ L ∧ w6.heap[L]? = some (.cells #[.string ⟨s6.toArray⟩] 9 (0, 0)) := hv 5 27 (by omega) rfl
        have he := act_eq a _ [some 22, some 23, some 24, some 25, some 26, some 27, some 28, some 29, none] 46 rfl hsz6 hdef hfr (fun d => a.tmps[d]?.getD undef) (fun _ _ => rfl)
        obtain ⟨t22, h22⟩ : ∃ v, a.tmps[22]?.getD undef = v := ⟨_, rfl⟩
        obtain ⟨t24, h24⟩ : ∃ v, a.tmps[24]?.getD undef = v := ⟨_, rfl⟩
        obtain ⟨t25, h25⟩ : ∃ v, a.tmps[25]?.getD undef = v := ⟨_, rfl⟩
        obtain ⟨t26, h26⟩ : ∃ v, a.tmps[26]?.getD undef = v := ⟨_, rfl⟩
        obtain ⟨t28, h28⟩ : ∃ v, a.tmps[28]?.getD undef = v := ⟨_, rfl⟩
        obtain ⟨t29, h29⟩ : ∃ v, a.tmps[29]?.getD undef = v := ⟨_, rfl⟩
        simp only [putAll, h22, h24, h25, h26, h28, h29, e23, e27, List.setIfInBounds_toArray, List.set_cons_zero, List.set_cons_succ] at he
        have hE6' : EyeW (w.alloc (.cells ans0.toArray 41)) w6 E yv bs (txtTo bs ij) := hE6
        have HST6 := Lib.hid (HST.out.call hk hE6')
        have hE5 : E < w5.heap.size := HS5.out.eye.lt
        have HR5 := Lib.hid HS5.out.eye.row_lt
        have HOW6 := Lib.hid (own_keeps hk HOW.out (fun q e hs => by have := (HOW.out.lt q e).1; omega))
        have HD6 := Lib.hid (reads_past HDD.out HDE.out hk)
        have hsz6' : wr.heap.size ≤ w6.heap.size := hk.size
        have hcl : w6.cell? ⟨L, 0, none⟩ = some (.string ⟨s6.toArray⟩) := by simp [World.cell?, hlit]
        clear h22 h24 h25 h26 h28 h29 e23 e27 hdef hsz6 hv hfr hE6 hE6' hk hlit HST HOW HDD HCELL
        subst he
        have hkb : kk < 256 := by rw [← hkk]; exact numAt_lt bs i3 1
        have HNJ := Lib.hid (namesAt_succ bs i4 j)
        have HTJ := Lib.hid (namesTo_succ bs i4 j)
        rw [hij] at HNJ HTJ
        rw [hs6] at HNJ
        refine (wpList_append_own _ (by rfl) _ _ 39 (by rfl) w5.heap.size 9 is (.string ⟨#[]⟩) 1 16 Tryd.underlying39 his hq0 hq1 hq2 rfl (by omega) x j _ (by rfl) HOW6.out ⟨L, 0, none⟩ 1 1 [.string ⟨s6.toArray⟩] (by rfl) (by rfl) (fun q u hu => by
          rcases q with _ | q
          · simp at hu; subst hu; simpa [Addr.add] using hcl
          · simp at hu) (by simp [Value.oneCell']) (by simp only [maxLen]; omega) (by omega) (by omega) ?_)
        intro x' w7 hown' hgrow hnil
        obtain ⟨gx, cx, rfl⟩ : ∃ g c, x' = .slice (some ⟨g, 0, none⟩) (j + 1) c := by
          rcases hown'.2 with ⟨_, h0⟩ | ⟨g, cp, cur, e, _⟩
          · omega
          · exact ⟨g, cp, e⟩
        have k67 : Keeps (fun q => w5.heap.size ≤ q ∧ x.ownBlock = some q) w6 w7 := (Keeps.refl _ _).grown hgrow (fun q e _ => ⟨(HOW6.out.lt q e).1, e⟩)
        have hst7 : ASt10 w w7 E yv bs (txtTo bs ij) B4 G (ansCells (n0 : Nat) (n1 : Nat) (.slice ro ds.length rc) x) :=
          ⟨HST6.out.eye.keep' k67 (by omega) (fun q e h => by have := (HR5.out q e).2; omega) (fun q h => by simp; omega), HST6.out.rdr.keep k67 (by omega), HST6.out.res.keep k67 (by omega), HST6.out.op.keep k67 (by omega), HST6.out.same.trans k67 (fun q hq h => by omega), HST6.out.ne⟩
        have f7 := hst7.op.cell (i := 3) rfl
        have g7 := hst7.op.free 3
        have hG5 : G < w5.heap.size := hGl
        have kset : Keeps (fun q => q = G) w7 (w7.setCell ⟨G, 3, none⟩ (.slice (some ⟨gx, 0, none⟩) (j + 1) cx)) := (Keeps.refl _ _).setCell _ _ (.inr rfl)
        have HST8 : Hid (ASt10 w (w7.setCell ⟨G, 3, none⟩ (.slice (some ⟨gx, 0, none⟩) (j + 1) cx)) E yv bs (namesTo bs i4 (j + 1)) B4 G (ansCells (n0 : Nat) (n1 : Nat) (.slice ro ds.length rc) (.slice (some ⟨gx, 0, none⟩) (j + 1) cx))) := Lib.hid (by rw [HTJ.out]; exact hst7.set 3 _)
        have HOW8 : Hid ((w7.setCell ⟨G, 3, none⟩ (.slice (some ⟨gx, 0, none⟩) (j + 1) cx)).ownsRow w5.heap.size 9 1 (.slice (some ⟨gx, 0, none⟩) (j + 1) cx) (j + 1) ((namesAt bs i4 (j + 1)).map Value.string)) := Lib.hid (by
          rw [HNJ.out, List.map_append]; exact own_keeps kset hown' (fun q e hs => by have := (hown'.lt q e).1; omega))
        have HD8 : Hid (Reads (w7.setCell ⟨G, 3, none⟩ (.slice (some ⟨gx, 0, none⟩) (j + 1) cx)) (.slice ro ds.length rc) ds) := Lib.hid (reads_past (reads_far HD5.out HD6.out k67 (fun q h => h.1)) HDG.out kset)
        have HSZ8 : Hid (w5.heap.size ≤ (w7.setCell ⟨G, 3, none⟩ (.slice (some ⟨gx, 0, none⟩) (j + 1) cx)).heap.size) := Lib.hid (by have := k67.size; have := kset.size; omega)
        clear hst7 kset k67 hown' hgrow hnil HST6 HOW6 HD6 HNJ HTJ hcl
        go_wp2
        go_roundw
        case rel => exact ⟨j + 1, _, by omega, by go_num, HST8.out, HOW8.out, HD8.out, HSZ8.out⟩
        case measure => simp [intOf]; omega
      · have hlt2 : ¬ (j : Int) < (kk : Int) := by omega
        have hjk : j = kk := by omega
        obtain ⟨ss, hss⟩ : ∃ ss, namesAt bs i4 j = ss := ⟨_, rfl⟩
        have hkl : j = ss.length := by rw [← hss, namesAt_length]
        obtain ⟨no, nc, rfl⟩ : ∃ no c, x = .slice no ss.length c := by
          rcases HOW.out.2 with ⟨e, h0⟩ | ⟨g, cp, cur, e, _⟩
          · exact ⟨none, 0, by rw [e, ← hkl, h0]⟩
          · exact ⟨some ⟨g, 0, none⟩, cp, by rw [e, ← hkl]⟩
        have HSTR : Hid (Strs wr (.slice no ss.length nc) ss) := Lib.hid (Strs.of_own (by have := HOW.out; rw [hss] at this; rw [← hkl] at this ⊢; exact this))
        have HSB : Hid (∀ a n c, Value.slice no ss.length nc = .slice (some a) n c → ¬ a.block = w.heap.size) := Lib.hid (fun a n c e => by
          simp only [Value.slice.injEq] at e
          have h1 := (HOW.out.lt a.block (by rw [e.1]; rfl)).1
          have h2 := HS5.out.res.lt
          omega)
        have HSC : Hid ((∀ a n c, Value.slice no ss.length nc = .slice (some a) n c → w.heap.size ≤ a.block) ∧ nc ≤ 9223372036854775807 ∧ ss.length ≤ nc) := Lib.hid ⟨fun a n c e => by
          simp only [Value.slice.injEq] at e
          have h1 := (HOW.out.lt a.block (by rw [e.1]; rfl)).1
          have h2 := HS5.out.res.lt
          omega, (own_capv HOW.out _ _ _ rfl).2, (own_capv HOW.out _ _ _ rfl).1⟩
        have HNO : Hid (¬ (AnsRight (n0 : Nat) (n1 : Nat) ds.length ss ∧ ansBytes (n0 : Nat) (n1 : Nat) ds ss = bs) → ∀ c n ds' ss', AnsRight c n (List.length ds') ss' → ansBytes c n ds' ss' ≠ bs) := Lib.hid (by
          intro hno c' n' ds' ss' hr hb
          obtain ⟨q0, q1, q2, q3, q4, _⟩ := rd_of_ans hr hb i1 i2 i3 i4 hi1 hi2 hi3 hi4
          rw [hn0] at q0
          rw [hn1] at q1
          rw [hds] at q2
          rw [hkk] at q3
          rw [← q3, ← hjk, hss] at q4
          rw [q0, q1, q2, q4] at hno
          exact hno ⟨hr, hb⟩)
        clear hss hkl hjk HOW hsz hi1 hi2 hi3 hi4 hn0 hn1 hds hkk
        go_wp2_with (first
          | (refine wpList_load_row (by rfl) 41 _ (by rfl) G (by rfl) 41 (ansCells (n0 : Nat) (n1 : Nat) (.slice ro ds.length rc) (.slice no ss.length nc)).toArray (0, 0) _ HST.out.op Tryd.underlying41 rfl HIO.out ?_))
        by_cases hR : AnsRight (n0 : Nat) (n1 : Nat) ds.length ss
        case neg =>
          refine (writeAnswer_no (n0 : Nat) (n1 : Nat) ro no ds.length rc nc ss _ HSTR.out hR).mono ?_
          rintro e w11 ⟨rfl, hk11⟩
          have HS11 := Lib.hid (HST.out.keep hk11)
          have HNN := Lib.hid (HNO.out (fun h => hR h.1))
          have HEND : Hid (Same w (w11.setRow w.heap.size ans0.toArray) ∧ Whole (w11.setRow w.heap.size ans0.toArray) w.heap.size 41 ans0) := Lib.hid
            ⟨HS11.out.same.setRow _ _ (.inl (Nat.le_refl _)), HS11.out.res.row⟩
          clear hR hk11
          go_wp2_with (first
            | (refine wpList_buildTo (by rfl) 41 _ (by rfl) _ (by rfl) ans0.toArray (by kernel_rfl) ?_)
            | (refine wpList_store_row (by rfl) 41 _ _ (by rfl) w.heap.size ans0.toArray (by rfl) (by rfl) 41 ans0.toArray HS11.out.res HIO.out rfl (ans_all _ _ _ _ _ _ _ _) ?_))
          refine bodyPost_ret (v := .tuple #[.agg ans0.toArray, .int .i64 22]) (results_row_tmp (p := 2) (u := 3) (ty := 41) rfl _ _ w.heap.size 41 _ (0, 0) _ (by rfl) HEND.out.2 Tryd.underlying41 rfl HIO.out) rfl
            ⟨HEND.out.1, 0, 0, [], [], .slice none 0 0, none, 0, 22, rfl, Reads.nil _ _ _, Strs.nil _ _ _, .inr ⟨HNN.out, rfl, rfl, rfl, rfl, rfl⟩, fun a n c e => by simp at e, fun a n c e => by simp at e, fun ao n c e => by simp at e; omega, by omega, Nat.le_refl _⟩
        have hbd : Bytes wr (.slice ro ds.length rc) ds := by obtain ⟨_, _, _, h, _⟩ := HDD.out; exact h
        refine (writeAnswer_yes (n0 : Nat) (n1 : Nat) ro no rc nc ds ss _ hbd HSTR.out hR).mono ?_
        rintro e w11 ⟨v, rfl, ho11, hk11⟩
        obtain ⟨vo, vc, rfl, hb11, hs11, hc11⟩ := Reads.of_own ho11 rfl
        have HS11 := Lib.hid (HST.out.keep hk11)
        have HEQ := Lib.hid (bytesEqual_any vo ao _ bs vc c w11 hb11 (HX.out.same HS11.out.same) hs11 HSP.out)
        have HD11 := Lib.hid (HDD.out.same hk11)
        have HDR := Lib.hid (reads_ne_ans HDD.out HST.out.res)
        have HT11 := Lib.hid (HSTR.out.same hk11)
        have HRY := Lib.hid hR
        obtain ⟨X, hX⟩ : ∃ X, ansBytes (n0 : Nat) (n1 : Nat) ds ss = X := ⟨_, rfl⟩
        rw [hX] at HEQ HNO ⊢
        have HXX := Lib.hid hX
        clear ho11 hb11 hs11 hc11 hk11 hR hX hbd
        by_cases hE : X = bs
        · rw [decide_eq_true hE] at HEQ
          have HE := Lib.hid hE
          have HEND : Hid (Same w (w11.setRow w.heap.size (ansCells (n0 : Nat) (n1 : Nat) (.slice ro ds.length rc) (.slice no ss.length nc)).toArray) ∧ Whole (w11.setRow w.heap.size (ansCells (n0 : Nat) (n1 : Nat) (.slice ro ds.length rc) (.slice no ss.length nc)).toArray) w.heap.size 41 (ansCells (n0 : Nat) (n1 : Nat) (.slice ro ds.length rc) (.slice no ss.length nc)) ∧ Reads (w11.setRow w.heap.size (ansCells (n0 : Nat) (n1 : Nat) (.slice ro ds.length rc) (.slice no ss.length nc)).toArray) (.slice ro ds.length rc) ds ∧ Strs (w11.setRow w.heap.size (ansCells (n0 : Nat) (n1 : Nat) (.slice ro ds.length rc) (.slice no ss.length nc)).toArray) (.slice no ss.length nc) ss) := Lib.hid
            ⟨HS11.out.same.setRow _ _ (.inl (Nat.le_refl _)), HS11.out.res.row, reads_past HD11.out HDR.out ((Keeps.refl _ _).setRow _ _ (.inr rfl)), HT11.out.keeps (S := fun q => q = w.heap.size) ((Keeps.refl _ _).setRow _ _ (.inr rfl)) HSB.out⟩
          clear hE
          go_wp2_with fail
          ((with_reducible refine HEQ.out.mono ?_); rintro e w12 ⟨rfl, h12⟩)
          subst h12
          go_wp2_with (first
            | (refine wpList_load_row (by rfl) 41 _ (by rfl) G (by rfl) 41 (ansCells (n0 : Nat) (n1 : Nat) (.slice ro ds.length rc) (.slice no ss.length nc)).toArray (0, 0) _ HS11.out.op Tryd.underlying41 rfl HIO.out ?_)
            | (refine wpList_store_row (by rfl) 41 _ _ (by rfl) w.heap.size (ansCells (n0 : Nat) (n1 : Nat) (.slice ro ds.length rc) (.slice no ss.length nc)).toArray (by rfl) (by rfl) 41 ans0.toArray HS11.out.res HIO.out rfl (ans_all _ _ _ _ _ _ _ _) ?_))
          refine bodyPost_ret (v := .tuple #[.agg (ansCells (n0 : Nat) (n1 : Nat) (.slice ro ds.length rc) (.slice no ss.length nc)).toArray, .int .i64 0]) (results_row_tmp (p := 2) (u := 3) (ty := 41) rfl _ _ w.heap.size 41 _ (0, 0) _ (by rfl) HEND.out.2.1 Tryd.underlying41 rfl HIO.out) rfl
            ⟨HEND.out.1, n0, n1, ds, ss, .slice ro ds.length rc, no, nc, 0, rfl, HEND.out.2.2.1, HEND.out.2.2.2, .inl ⟨HRY.out, HXX.out.trans HE.out, rfl⟩, HDB.out.1, HSC.out.1, HDB.out.2, HSC.out.2⟩
        · rw [decide_eq_false hE] at HEQ
          have HNN := Lib.hid (HNO.out (fun h => hE h.2))
          have HEND : Hid (Same w (w11.setRow w.heap.size ans0.toArray) ∧ Whole (w11.setRow w.heap.size ans0.toArray) w.heap.size 41 ans0) := Lib.hid
            ⟨HS11.out.same.setRow _ _ (.inl (Nat.le_refl _)), HS11.out.res.row⟩
          clear hE
          go_wp2_with fail
          ((with_reducible refine HEQ.out.mono ?_); rintro e w12 ⟨rfl, h12⟩)
          subst h12
          go_wp2_with (first
            | (refine wpList_buildTo (by rfl) 41 _ (by rfl) _ (by rfl) ans0.toArray (by kernel_rfl) ?_)
            | (refine wpList_store_row (by rfl) 41 _ _ (by rfl) w.heap.size ans0.toArray (by rfl) (by rfl) 41 ans0.toArray HS11.out.res HIO.out rfl (ans_all _ _ _ _ _ _ _ _) ?_))
          refine bodyPost_ret (v := .tuple #[.agg ans0.toArray, .int .i64 22]) (results_row_tmp (p := 2) (u := 3) (ty := 41) rfl _ _ w.heap.size 41 _ (0, 0) _ (by rfl) HEND.out.2 Tryd.underlying41 rfl HIO.out) rfl
            ⟨HEND.out.1, 0, 0, [], [], .slice none 0 0, none, 0, 22, rfl, Reads.nil _ _ _, Strs.nil _ _ _, .inr ⟨HNN.out, rfl, rfl, rfl, rfl, rfl⟩, fun a n c e => by simp at e, fun a n c e => by simp at e, fun ao n c e => by simp at e; omega, by omega, Nat.le_refl _⟩
theorem ansRead_any (ao : Option Addr) (c : Nat) (bs : List UInt8) (w : World) (hx : Bytes w (.slice ao bs.length c) bs) (hsp : ∀ x, ao = some x → bs ≠ [] → x.spot = none) (hc : bs.length ≤ c) (hl : bs.length ≤ 140737488351232) (hcn : ao = none → c = 0) :
    Calls Tryd.prog 46 #[.slice ao bs.length c] w fun e w' => Same w w' ∧ ∃ cc n ds ss v no ncap er, e = .returned (.tuple #[ansVal cc n v (.slice no ss.length ncap), .int .i64 er]) ∧ Reads w' v ds ∧ Strs w' (.slice no ss.length ncap) ss ∧ AnsIs bs cc n ds ss er :=
  (ansRead_own ao c bs w hx hsp hc hl hcn).mono fun e w' ⟨hk, cc, n, ds, ss, v, no, nc, er, h1, h2, h3, h4, _⟩ => ⟨hk, cc, n, ds, ss, v, no, nc, er, h1, h2, h3, h4⟩
end Go.Proofs.YtafgiljgefeefaaDoor
