/- What the document's own ReadAnswer does. -/
import Derived.Test.YtickphkeeflbbaaRefOp4
import Derived.Test.YtickphkeeflbbaaAnsR1
import Derived.Test.YtickphkeeflbbaaRefAns2
namespace Go.Proofs.Ytickphkeeflbbaa
open Go.RowKit
set_option linter.unusedVariables false

theorem namesOk_mono {bs : List UInt8} {i j k : Nat} (h : namesOk bs i k) (hj : j ≤ k) : namesOk bs i j := by
  induction k with
  | zero => obtain rfl : j = 0 := by omega
            exact h
  | succ k ih =>
    by_cases e : j = k + 1
    · subst e; exact h
    · exact ih ((namesOk_succ bs i k).1 h).1 (by omega)

/-- What stands where the document's ReadAnswer reads. -/
structure RASt (w w' : World) (E : Nat) (ao : Option Addr) (c : Nat) (bs : List UInt8) (i G : Nat) (cs : List Value) : Prop where
  eye : REye w' E ao c bs i
  res : Whole w' w.heap.size 41 ans0
  op : Whole w' G 41 cs
  same : Same w w'
  old : Bytes w (.slice ao bs.length c) bs
  ne : w.heap.size < E ∧ E < G
theorem RASt.call {w w' w'' : World} {E i j G c : Nat} {ao : Option Addr} {bs : List UInt8} {cs : List Value} (h : RASt w w' E ao c bs i G cs) (k : Keeps (fun k => k = E) w' w'') (hy : REye w'' E ao c bs j) : RASt w w'' E ao c bs j G cs := by
  obtain ⟨n1, n2⟩ := h.ne
  exact ⟨hy, h.res.keep k (by omega), h.op.keep k (by omega), h.same.trans k (fun q hq e => by omega), h.old, n1, n2⟩
theorem RASt.keepS {S : Nat → Prop} {w w' w'' : World} {E i G c : Nat} {ao : Option Addr} {bs : List UInt8} {cs : List Value} (h : RASt w w' E ao c bs i G cs) (k : Keeps S w' w'') (hs : ∀ q, S q → w.heap.size < q ∧ q ≠ E ∧ q ≠ G) : RASt w w'' E ao c bs i G cs := by
  obtain ⟨n1, n2⟩ := h.ne
  have hsm : Same w w'' := h.same.trans k (fun q hq e => by have := (hs q e).1; omega)
  exact ⟨⟨k.obj h.eye.obj (fun e => (hs _ e).2.1 rfl), h.old.same hsm, h.eye.le, h.eye.cap, h.eye.far⟩, h.res.keep k (fun e => by have := (hs _ e).1; omega), h.op.keep k (fun e => (hs _ e).2.2 rfl), hsm, h.old, n1, n2⟩
theorem RASt.keep {w w' w'' : World} {E i G c : Nat} {ao : Option Addr} {bs : List UInt8} {cs : List Value} (h : RASt w w' E ao c bs i G cs) (k : Same w' w'') : RASt w w'' E ao c bs i G cs := h.keepS k (fun _ e => e.elim)
theorem RASt.set {w w' : World} {E i G c : Nat} {ao : Option Addr} {bs : List UInt8} {cs : List Value} (h : RASt w w' E ao c bs i G cs) (q : Nat) (v : Value) : RASt w (w'.setCell ⟨G, q, none⟩ v) E ao c bs i G (cs.set q v) := by
  obtain ⟨n1, n2⟩ := h.ne
  have hsm : Same w (w'.setCell ⟨G, q, none⟩ v) := h.same.setCell _ _ (.inl (by simp only; omega))
  have hk : Keeps (fun q => q = G) w' (w'.setCell ⟨G, q, none⟩ v) := (Keeps.refl _ _).setCell _ _ (.inr rfl)
  exact ⟨⟨hk.obj h.eye.obj (by omega), h.old.same hsm, h.eye.le, h.eye.cap, h.eye.far⟩, h.res.far _ (by simp only; omega) _, h.op.set q v, hsm, h.old, n1, n2⟩

set_option maxRecDepth 100000 in
set_option maxHeartbeats 6400000 in
theorem refAnsRead_any (ao : Option Addr) (c : Nat) (bs : List UInt8) (w : World) (hx : Bytes w (.slice ao bs.length c) bs) (hc : bs.length ≤ c) (hl : bs.length ≤ 140737488351232) :
    Calls Try.prog 19 #[.slice ao bs.length c] w fun e w' => Same w w' ∧ ∃ cc n ds ss v no ncap er, e = .returned (.tuple #[ansVal cc n v (.slice no ss.length ncap), .int .i64 er]) ∧ Reads w' v ds ∧ Strs w' (.slice no ss.length ncap) ss ∧ AnsIs bs cc n ds ss er := by
  have hzs := Try.zeroAns
  obtain ⟨w1, hw1⟩ : ∃ w1, (w.alloc (.cells ans0.toArray 41)).alloc (.cells #[.slice ao bs.length c, .int .i64 0] 71) = w1 := ⟨_, rfl⟩
  obtain ⟨E, hE⟩ : ∃ E, w.heap.size + 1 = E := ⟨_, rfl⟩
  have hE0 : (w.alloc (.cells ans0.toArray 41)).heap.size = E := by rw [← hE]; simp
  have hE1 : w.heap.size < E := by omega
  have hk1 : Same w w1 := by rw [← hw1]; exact ((Keeps.refl _ _).alloc _).alloc _
  have HR1 : Hid (Whole w1 w.heap.size 41 ans0) := Lib.hid (by
    rw [← hw1]; exact Whole.keep (w := w.alloc (.cells ans0.toArray 41)) (S := fun _ => False) (heap_alloc_new w _) ((Keeps.refl _ _).alloc _) (fun e => e))
  have HE1 : Hid (REye w1 E ao c bs 0) := Lib.hid ⟨by rw [← hw1, ← hE0]; exact heap_alloc_new _ _, hx.same hk1, Nat.zero_le _, hc, fun a e hn => by subst e; have := hx.lt hn; omega⟩
  have HK1 := Lib.hid hk1
  have HW1 := Lib.hid hw1
  have HEE := Lib.hid hE
  have HX := Lib.hid hx
  clear hx hk1 hw1 hE hE0
  obtain ⟨n0, hn0⟩ : ∃ n0, numAt bs 0 2 = n0 := ⟨_, rfl⟩
  obtain ⟨i1, hi1⟩ : ∃ i1, numTo bs 0 2 = i1 := ⟨_, rfl⟩
  obtain ⟨n1, hn1⟩ : ∃ n1, numAt bs i1 2 = n1 := ⟨_, rfl⟩
  obtain ⟨i2, hi2⟩ : ∃ i2, numTo bs i1 2 = i2 := ⟨_, rfl⟩
  obtain ⟨ds, hds⟩ : ∃ ds, txtAt bs i2 = ds := ⟨_, rfl⟩
  obtain ⟨i3, hi3⟩ : ∃ i3, txtTo bs i2 = i3 := ⟨_, rfl⟩
  obtain ⟨kk, hkk⟩ : ∃ kk, numAt bs i3 1 = kk := ⟨_, rfl⟩
  obtain ⟨i4, hi4⟩ : ∃ i4, numTo bs i3 1 = i4 := ⟨_, rfl⟩
  have hb0 : n0 < 65536 := by rw [← hn0]; have := numAt_lt bs 0 2; omega
  have hb1 : n1 < 65536 := by rw [← hn1]; have := numAt_lt bs i1 2; omega
  have hkb : kk < 256 := by rw [← hkk]; exact numAt_lt bs i3 1
  have HNO : Hid (∀ c n ds' ss', AnsRight c n (List.length ds') ss' → ansBytes c n ds' ss' = bs → ((0 + 2 ≤ bs.length ∧ i1 + 2 ≤ bs.length ∧ TxtOk bs i2 ∧ i3 + 1 ≤ bs.length) ∧ namesOk bs i4 kk) ∧ bs.drop (namesTo bs i4 kk) = [] ∧ AnsRight (n0 : Nat) (n1 : Nat) ds.length (namesAt bs i4 kk)) := Lib.hid (by
    intro c' n' ds' ss' hr hb
    obtain ⟨q0, q1, q2, q3, q4, q5, q6, q7, q8, q9, q10⟩ := rd_of_ans hr hb i1 i2 i3 i4 hi1 hi2 hi3 hi4
    rw [hn0] at q0
    rw [hn1] at q1
    rw [hds] at q2
    rw [hkk] at q3
    subst q3
    rw [q4, q0, q1, q2]
    exact ⟨⟨⟨q5, q6, q7, q8⟩, q9⟩, q10, hr⟩)
  have HOP : Hid (((0 + 2 ≤ bs.length ∧ i1 + 2 ≤ bs.length ∧ TxtOk bs i2 ∧ i3 + 1 ≤ bs.length) ∧ namesOk bs i4 kk) → bs.drop (namesTo bs i4 kk) = [] → ansBytes (n0 : Nat) (n1 : Nat) ds (namesAt bs i4 kk) = bs) := Lib.hid (by
    intro ⟨⟨q5, q6, q7, q8⟩, q9⟩ q10
    rw [← hkk] at q9 q10 ⊢
    rw [← hn0, ← hn1, ← hds]
    exact ans_of_rd hi1 hi2 hi3 hi4 ⟨q5, q6, q7, q8, q9, q10⟩)
  have HI := Lib.hid (show numTo bs 0 2 = i1 ∧ numTo bs i1 2 = i2 ∧ txtTo bs i2 = i3 ∧ numTo bs i3 1 = i4 from ⟨hi1, hi2, hi3, hi4⟩)
  have HV := Lib.hid (show numAt bs 0 2 = n0 ∧ numAt bs i1 2 = n1 ∧ txtAt bs i2 = ds ∧ numAt bs i3 1 = kk from ⟨hn0, hn1, hds, hkk⟩)
  have HIO := Lib.hid Try.sizeAns
  have HB0 := Lib.hid hb0
  have HB1 := Lib.hid hb1
  have HKB := Lib.hid hkb
  clear hn0 hi1 hn1 hi2 hds hi3 hkk hi4 hb0 hb1 hkb
  go_enter Try.func19, Try.ntmps19
  go_wp2_with fail
  rw [HW1.out, HEE.out]
  ((with_reducible refine (reye_num E ao c bs 0 2 _ _ HE1.out hl (by omega) (by omega) (by omega)).mono ?_); rintro e w2 ⟨er0, rfl, hy, hk, hq⟩)
  rw [HV.out.1]
  rw [HI.out.1] at hy
  have HQ0 := Lib.hid hq
  have HE2 := Lib.hid hy
  have HR2 := Lib.hid (HR1.out.keep hk (by omega))
  have HK2 : Hid (Same w w2) := Lib.hid (HK1.out.trans hk (fun q hq e => by omega))
  clear hy hk hq HE1 HR1 HK1
  go_wp2_with fail
  ((with_reducible refine (reye_num E ao c bs i1 2 _ _ HE2.out hl (by omega) (by omega) (by omega)).mono ?_); rintro e w3 ⟨er1, rfl, hy, hk, hq⟩)
  rw [HV.out.2.1]
  rw [HI.out.2.1] at hy
  have HQ1 := Lib.hid hq
  have HE3 := Lib.hid hy
  have HR3 := Lib.hid (HR2.out.keep hk (by omega))
  have HK3 : Hid (Same w w3) := Lib.hid (HK2.out.trans hk (fun q hq e => by omega))
  clear hy hk hq HE2 HR2 HK2
  go_wp2_with fail
  ((with_reducible refine (reye_txt E ao c bs i2 _ HE3.out hl).mono ?_); rintro e w4 ⟨r2, er2, rfl, hrd, hrp, hy, hk, hq⟩)
  rw [HV.out.2.2.1] at hrd hrp
  rw [HI.out.2.2.1] at hy
  have HQ2 := Lib.hid hq
  have HT2 := Lib.hid hrd
  have HRW2 : Hid (∀ a n c, r2 = .slice (some a) n c → ds ≠ [] → ¬ a.block = w.heap.size) := Lib.hid (fun a n c e hn => by have := hrp a n c e hn; have := HR3.out.lt; omega)
  have HP2 : Hid (∀ a n c, r2 = .slice (some a) n c → ds ≠ [] → a.block ≠ E) := Lib.hid (fun a n c e hn => by have := hrp a n c e hn; have := HE3.out.lt; omega)
  clear hrd hrp
  have HE4 := Lib.hid hy
  have HR4 := Lib.hid (HR3.out.keep hk (by omega))
  have HK4 : Hid (Same w w4) := Lib.hid (HK3.out.trans hk (fun q hq e => by omega))
  clear hy hk hq HE3 HR3 HK3
  go_wp2_with fail
  ((with_reducible refine (reye_num E ao c bs i3 1 _ _ HE4.out hl (by omega) (by omega) (by omega)).mono ?_); rintro e w5 ⟨er3, rfl, hy, hk, hq⟩)
  rw [HV.out.2.2.2]
  rw [HI.out.2.2.2] at hy
  have HQ3 := Lib.hid hq
  replace HT2 := Lib.hid (HT2.out.past HP2.out hk)
  have HE5 := Lib.hid hy
  have HR5 := Lib.hid (HR4.out.keep hk (by omega))
  have HK5 : Hid (Same w w5) := Lib.hid (HK4.out.trans hk (fun q hq e => by omega))
  clear hy hk hq HE4 HR4 HK4
  obtain ⟨ro, rc, rfl, hb15, hs15, hc15⟩ := HT2.out
  clear hb15 hs15 hc15
  have u0 : IntKind.i64.wrap (n0 : Int) = n0 := by have := IntWalk.i64_in (n0 : Int) (by have := HB0.out; omega); exact this
  have u1 : IntKind.i64.wrap (n1 : Int) = n1 := by have := IntWalk.i64_in (n1 : Int) (by have := HB1.out; omega); exact this
  obtain ⟨w6, hw6⟩ : ∃ w6, (w5.alloc (.cells ans0.toArray 41)).setRow w5.heap.size (ansCells (n0 : Nat) (n1 : Nat) (.slice ro ds.length rc) (.slice none 0 0)).toArray = w6 := ⟨_, rfl⟩
  have hk6 : Same w5 w6 := by rw [← hw6]; exact ((Keeps.refl _ _).alloc _).setRow _ _ (.inl (Nat.le_refl _))
  have hE5 := HE5.out.lt
  have HN5 : Hid ((w5.alloc (.cells ans0.toArray 41)).heap[w5.heap.size]? = some (.cells ans0.toArray 41 (0, 0))) := Lib.hid (heap_alloc_new w5 _)
  have HST : Hid (RASt w w6 E ao c bs i4 w5.heap.size (ansCells (n0 : Nat) (n1 : Nat) (.slice ro ds.length rc) (.slice none 0 0))) := Lib.hid
    ⟨HE5.out.same hk6, HR5.out.keep hk6 (fun e => e), by rw [← hw6]; exact Whole.row (cs := ans0) (heap_alloc_new w5 _), HK5.out.trans hk6 (fun _ _ e => e), HX.out, hE1, hE5⟩
  have HD6 : Hid (Reads w6 (.slice ro ds.length rc) ds) := Lib.hid (HT2.out.same hk6)
  have HDG : Hid (∀ a n c, Value.slice ro ds.length rc = .slice (some a) n c → ds ≠ [] → a.block ≠ w5.heap.size) := Lib.hid (fun a n c e hn => by
    obtain ⟨ao', c', e', h1, _, _⟩ := HT2.out
    rw [e] at h1
    have := h1.lt hn
    omega)
  have HD60 := HD6
  have HDE : Hid (∀ a n c, Value.slice ro ds.length rc = .slice (some a) n c → ds ≠ [] → a.block ≠ E) := HP2
  have HW6 := Lib.hid hw6
  obtain ⟨bb0, hbb⟩ : ∃ bb, er0 + er1 + er2 + er3 = bb := ⟨_, rfl⟩
  have hq0 : er0 = 0 ∨ er0 = 20 := by rcases HQ0.out with h | h <;> simp [h.1]
  have hq1 : er1 = 0 ∨ er1 = 20 := by rcases HQ1.out with h | h <;> simp [h.1]
  have hq2 : er2 = 0 ∨ er2 = 20 := by rcases HQ2.out with h | h <;> simp [h.1]
  have hq3 : er3 = 0 ∨ er3 = 20 := by rcases HQ3.out with h | h <;> simp [h.1]
  have s1 : IntKind.i64.wrap (er0 + er1) = er0 + er1 := IntWalk.i64_in _ (by omega)
  have s2 : IntKind.i64.wrap (er0 + er1 + er2) = er0 + er1 + er2 := IntWalk.i64_in _ (by omega)
  have s3 : IntKind.i64.wrap (er0 + er1 + er2 + er3) = er0 + er1 + er2 + er3 := IntWalk.i64_in _ (by omega)
  have HBB : Hid ((bb0 = 0 ∧ (0 + 2 ≤ bs.length ∧ i1 + 2 ≤ bs.length ∧ TxtOk bs i2 ∧ i3 + 1 ≤ bs.length) ∧ namesOk bs i4 0) ∨ (bb0 ≠ 0 ∧ ¬ ((0 + 2 ≤ bs.length ∧ i1 + 2 ≤ bs.length ∧ TxtOk bs i2 ∧ i3 + 1 ≤ bs.length) ∧ namesOk bs i4 kk))) := Lib.hid (by
    by_cases q : bb0 = 0
    · refine .inl ⟨q, ⟨?_, ?_, ?_, ?_⟩, trivial⟩
      · rcases HQ0.out with h | h
        · exact h.2
        · omega
      · rcases HQ1.out with h | h
        · exact h.2
        · omega
      · rcases HQ2.out with h | h
        · exact h.2
        · omega
      · rcases HQ3.out with h | h
        · exact h.2
        · omega
    · refine .inr ⟨q, fun ⟨⟨c1, c2, c3, c4⟩, _⟩ => q ?_⟩
      have y0 : er0 = 0 := by rcases HQ0.out with h | h; exact h.1; exact absurd c1 h.2
      have y1 : er1 = 0 := by rcases HQ1.out with h | h; exact h.1; exact absurd c2 h.2
      have y2 : er2 = 0 := by rcases HQ2.out with h | h; exact h.1; exact absurd c3 h.2
      have y3 : er3 = 0 := by rcases HQ3.out with h | h; exact h.1; exact absurd c4 h.2
      omega)
  have HBE := Lib.hid hbb
  clear hbb
  have HRP : Hid (∀ a n c, Value.slice ro ds.length rc = .slice (some a) n c → ds ≠ [] → ¬ a.block = w.heap.size) := HRW2
  clear hk6 hw6 hq0 hq1 hq2 hq3 HQ0 HQ1 HQ2 HQ3 HE5 HR5 HK5 HT2 HRW2 HX HW1 HEE
  go_wp2_with (first
    | (refine wpList_store_row (by rfl) 41 _ _ (by rfl) w5.heap.size (ansCells (n0 : Nat) (n1 : Nat) (.slice ro ds.length rc) (.slice none 0 0)).toArray (by rfl) (by rfl) 41 ans0.toArray HN5.out HIO.out rfl (ans_all _ _ _ _ _ _ _ _) ?_; rw [HW6.out]))
  rw [HBE.out]
  generalize hG : w5.heap.size = G at *
  clear s1 s2 s3 HBE u0 u1 HN5 HW6
  have hkk0 : IntKind.i64.wrap (kk : Int) = kk := by have := IntWalk.i64_in (kk : Int) (by have := HKB.out; omega); exact this
  obtain ⟨is, his, hq0, hq1, hq2⟩ : ∃ i, Try.prog.info? 9 = some i ∧ i.zero = some (.string ⟨#[]⟩) ∧ i.size = 1 ∧ i.bytes = 16 := info_parts (show (Try.prog.info? 9).map (fun i => (i.zero, i.size, i.bytes)) = some (some (.string ⟨#[]⟩), 1, 16) from by kernel_rfl)
  go_loopw [14, 15, 16, 17] (fun b i _ _ wr => ∃ (j : Nat) (x : Value) (bb : Int), j ≤ kk ∧ b = .int .i64 bb ∧ i = .int .i64 j ∧ RASt w wr E ao c bs (namesTo bs i4 j) G (ansCells (n0 : Nat) (n1 : Nat) (.slice ro ds.length rc) x) ∧ wr.ownsRow w6.heap.size 9 1 x j ((namesAt bs i4 j).map Value.string) ∧ Reads wr (.slice ro ds.length rc) ds ∧ w6.heap.size ≤ wr.heap.size ∧ ((bb = 0 ∧ (0 + 2 ≤ bs.length ∧ i1 + 2 ≤ bs.length ∧ TxtOk bs i2 ∧ i3 + 1 ≤ bs.length) ∧ namesOk bs i4 j) ∨ (bb ≠ 0 ∧ ¬ ((0 + 2 ≤ bs.length ∧ i1 + 2 ≤ bs.length ∧ TxtOk bs i2 ∧ i3 + 1 ≤ bs.length) ∧ namesOk bs i4 kk)))) (fun _ i _ _ _ => kk - (intOf i).toNat)
  case atStart => exact ⟨0, .slice none 0 0, bb0, by omega, rfl, rfl, HST.out, World.ownsRow_nil _ _ _ _, HD6.out, Nat.le_refl _, HBB.out⟩
  case round =>
    obtain ⟨j, x, bb, hj, rfl, rfl, hst, hown, hd, hsz, hbb⟩ := hrel
    have HST1 := Lib.hid hst
    have HOW := Lib.hid hown
    have HDD := Lib.hid hd
    have HB := Lib.hid hbb
    have hGl := HST.out.op.lt
    have hne := hst.ne
    clear hst hown hd hbb HBB HD6
    by_cases hz : bb = 0
    case neg =>
      have HNN : Hid (∀ c n ds ss, AnsRight c n (List.length ds) ss → ansBytes c n ds ss ≠ bs) := Lib.hid (by
        rcases HB.out with h | h
        · exact absurd h.1 hz
        · exact fun c n ds' ss' hr hb => h.2 (HNO.out c n ds' ss' hr hb).1)
      have HEND : Hid (Same w (wr.setRow w.heap.size ans0.toArray) ∧ Whole (wr.setRow w.heap.size ans0.toArray) w.heap.size 41 ans0) := Lib.hid
        ⟨HST1.out.same.setRow _ _ (.inl (Nat.le_refl _)), HST1.out.res.row⟩
      by_cases hlt : j < kk
      · have hlt2 : (j : Int) < (kk : Int) := by omega
        go_wp2_with (first
          | (refine wpList_buildTo (by rfl) 41 _ (by rfl) _ (by rfl) ans0.toArray (by kernel_rfl) ?_)
          | (refine wpList_store_row (by rfl) 41 _ _ (by rfl) w.heap.size ans0.toArray (by rfl) (by rfl) 41 ans0.toArray HST1.out.res HIO.out rfl (ans_all _ _ _ _ _ _ _ _) ?_))
        refine bodyPost_ret (v := .tuple #[.agg ans0.toArray, .int .i64 22]) (results_row_tmp (p := 2) (u := 3) (ty := 41) rfl _ _ w.heap.size 41 _ (0, 0) _ (by rfl) HEND.out.2 Try.underlying41 rfl HIO.out) rfl
          ⟨HEND.out.1, 0, 0, [], [], .slice none 0 0, none, 0, 22, rfl, Reads.nil _ _ _, Strs.nil _ _ _, .inr ⟨HNN.out, rfl, rfl, rfl, rfl, rfl⟩⟩
      have hlt2 : ¬ (j : Int) < (kk : Int) := by omega
      go_wp2_with (first
        | (refine wpList_buildTo (by rfl) 41 _ (by rfl) _ (by rfl) ans0.toArray (by kernel_rfl) ?_)
        | (refine wpList_store_row (by rfl) 41 _ _ (by rfl) w.heap.size ans0.toArray (by rfl) (by rfl) 41 ans0.toArray HST1.out.res HIO.out rfl (ans_all _ _ _ _ _ _ _ _) ?_))
      refine bodyPost_ret (v := .tuple #[.agg ans0.toArray, .int .i64 22]) (results_row_tmp (p := 2) (u := 3) (ty := 41) rfl _ _ w.heap.size 41 _ (0, 0) _ (by rfl) HEND.out.2 Try.underlying41 rfl HIO.out) rfl
        ⟨HEND.out.1, 0, 0, [], [], .slice none 0 0, none, 0, 22, rfl, Reads.nil _ _ _, Strs.nil _ _ _, .inr ⟨HNN.out, rfl, rfl, rfl, rfl, rfl⟩⟩
    subst hz
    have hbok : (0 + 2 ≤ bs.length ∧ i1 + 2 ≤ bs.length ∧ TxtOk bs i2 ∧ i3 + 1 ≤ bs.length) ∧ namesOk bs i4 j := by
      rcases HB.out with h | h
      · exact h.2
      · exact absurd rfl h.1
    have HBOK := Lib.hid hbok
    clear hbok HB
    by_cases hlt : j < kk
    · have hlt2 : (j : Int) < (kk : Int) := by omega
      obtain ⟨ij, hij⟩ : ∃ ij, namesTo bs i4 j = ij := ⟨_, rfl⟩
      obtain ⟨s6, hs6⟩ : ∃ s6, txtAt bs ij = s6 := ⟨_, rfl⟩
      rw [hij] at HST1
      go_wp2_with fail
      ((with_reducible refine (reye_txt E ao c bs ij _ HST1.out.eye hl).mono ?_); rintro e w7 ⟨r7, er7, rfl, hrd, hrp, hy, hk, hq⟩)
      rw [hs6] at hrd hrp
      have HST7 := Lib.hid (HST1.out.call hk hy)
      have hE6 : E < w6.heap.size := by omega
      have HOW7 := Lib.hid (own_keeps hk HOW.out (fun q e hs => by have := (HOW.out.lt q e).1; omega))
      have HD7 := Lib.hid (HDD.out.past (fun a n c e hn => by
        obtain ⟨ao', c', e', h1, _, _⟩ := HDD.out
        have := HDE.out a n c e hn
        exact this) hk)
      have HRD := Lib.hid hrd
      have hsz7 : wr.heap.size ≤ w7.heap.size := hk.size
      have kcv := run_reads hrd
      have HNJ := Lib.hid (namesAt_succ bs i4 j)
      have HTJ := Lib.hid (namesTo_succ bs i4 j)
      rw [hij] at HNJ HTJ
      rw [hs6] at HNJ
      have HBN : Hid ((er7 = 0 ∧ (0 + 2 ≤ bs.length ∧ i1 + 2 ≤ bs.length ∧ TxtOk bs i2 ∧ i3 + 1 ≤ bs.length) ∧ namesOk bs i4 (j + 1)) ∨ (er7 ≠ 0 ∧ ¬ ((0 + 2 ≤ bs.length ∧ i1 + 2 ≤ bs.length ∧ TxtOk bs i2 ∧ i3 + 1 ≤ bs.length) ∧ namesOk bs i4 kk))) := Lib.hid (by
        rcases hq with h | h
        · exact .inl ⟨h.1, HBOK.out.1, (namesOk_succ bs i4 j).2 ⟨HBOK.out.2, by rw [hij]; exact h.2⟩⟩
        · refine .inr ⟨by omega, fun h2 => h.2 ?_⟩
          have := ((namesOk_succ bs i4 j).1 (namesOk_mono h2.2 (by omega))).2
          rw [hij] at this
          exact this)
      obtain ⟨w8, hw8⟩ : ∃ w8, w7.alloc (.cells #[.string ⟨s6.toArray⟩] 9) = w8 := ⟨_, rfl⟩
      have hk78 : Same w7 w8 := by rw [← hw8]; exact (Keeps.refl _ _).alloc _
      have HST8 := Lib.hid (HST7.out.keep hk78)
      have HOW8 := Lib.hid (own_keeps hk78 HOW7.out (fun _ _ e => e))
      have HD8 := Lib.hid (HD7.out.same hk78)
      have hl8 : w8.heap[w7.heap.size]? = some (.cells #[.string ⟨s6.toArray⟩] 9 (0, 0)) := by rw [← hw8]; exact heap_alloc_new w7 _
      have hcl : w8.cell? ⟨w7.heap.size, 0, none⟩ = some (.string ⟨s6.toArray⟩) := by simp [World.cell?, hl8]
      clear hl8
      have HCL := Lib.hid hcl
      have hsz8 : w7.heap.size < w8.heap.size := by rw [← hw8]; simp
      have HW8 := Lib.hid hw8
      have hc3 : w7.cell? ⟨G, 3, none⟩ = some x := HST7.out.op.cell (i := 3) rfl
      have HKB2 := HKB.out
      clear hrd hrp hy hk hq hcl hk78 HST7 HOW7 HD7 hw8 HST1 HOW HDD
      go_wp2_with (at_builtin; (try rw [HW8.out]); refine (wpList_append_own _ (by rfl) _ _ 39 (by rfl) w6.heap.size 9 is (.string ⟨#[]⟩) 1 16 Try.underlying39 his hq0 hq1 hq2 rfl (by omega) x j _ (by rfl) HOW8.out ⟨w7.heap.size, 0, none⟩ 1 1 [.string ⟨s6.toArray⟩] (by rfl) (by rfl) (fun q u hu => by
          rcases q with _ | q
          · simp at hu; subst hu; simpa [Addr.add] using HCL.out
          · simp at hu) (by simp [Value.oneCell']) (by simp only [maxLen]; omega) (by omega) (by omega) ?_))
      intro x' w9 hown' hgrow hnil
      obtain ⟨gx, cx, rfl⟩ : ∃ g c, x' = .slice (some ⟨g, 0, none⟩) (j + 1) c := by
        rcases hown'.2 with ⟨_, h0⟩ | ⟨g, cp, cur, e, _⟩
        · omega
        · exact ⟨g, cp, e⟩
      have k89 : Keeps (fun q => w6.heap.size ≤ q ∧ x.ownBlock = some q) w8 w9 := (Keeps.refl _ _).grown hgrow (fun q e _ => ⟨(HOW8.out.lt q e).1, e⟩)
      have hst9 := HST8.out.keepS k89 (fun q h => by omega)
      have f9 := hst9.op.cell (i := 3) rfl
      have g9 := hst9.op.free 3
      have kset : Keeps (fun q => q = G) w9 (w9.setCell ⟨G, 3, none⟩ (.slice (some ⟨gx, 0, none⟩) (j + 1) cx)) := (Keeps.refl _ _).setCell _ _ (.inr rfl)
      have HST10 : Hid (RASt w (w9.setCell ⟨G, 3, none⟩ (.slice (some ⟨gx, 0, none⟩) (j + 1) cx)) E ao c bs (namesTo bs i4 (j + 1)) G (ansCells (n0 : Nat) (n1 : Nat) (.slice ro ds.length rc) (.slice (some ⟨gx, 0, none⟩) (j + 1) cx))) := Lib.hid (by rw [HTJ.out]; exact hst9.set 3 _)
      have HOW10 : Hid ((w9.setCell ⟨G, 3, none⟩ (.slice (some ⟨gx, 0, none⟩) (j + 1) cx)).ownsRow w6.heap.size 9 1 (.slice (some ⟨gx, 0, none⟩) (j + 1) cx) (j + 1) ((namesAt bs i4 (j + 1)).map Value.string)) := Lib.hid (by
        rw [HNJ.out, List.map_append]; exact own_keeps kset hown' (fun q e hs => by have := (hown'.lt q e).1; omega))
      have HD10 : Hid (Reads (w9.setCell ⟨G, 3, none⟩ (.slice (some ⟨gx, 0, none⟩) (j + 1) cx)) (.slice ro ds.length rc) ds) := Lib.hid (reads_past (reads_far HD60.out HD8.out k89 (fun q h => h.1)) HDG.out kset)
      have HSZ10 : Hid (w6.heap.size ≤ (w9.setCell ⟨G, 3, none⟩ (.slice (some ⟨gx, 0, none⟩) (j + 1) cx)).heap.size) := Lib.hid (by have := k89.size; have := kset.size; omega)
      clear hst9 kset k89 hown' hgrow hnil HST8 HOW8 HD8 HNJ HTJ HCL HW8
      go_wp2
      go_roundw
      case rel => exact ⟨j + 1, _, er7, by omega, rfl, by go_num, HST10.out, HOW10.out, HD10.out, HSZ10.out, HBN.out⟩
      case measure => simp [intOf]; omega
    · have hlt2 : ¬ (j : Int) < (kk : Int) := by omega
      have hjk : j = kk := by omega
      subst hjk
      obtain ⟨ss, hss⟩ : ∃ ss, namesAt bs i4 j = ss := ⟨_, rfl⟩
      have hkl : j = ss.length := by rw [← hss, namesAt_length]
      obtain ⟨no, nc, rfl⟩ : ∃ no c, x = .slice no ss.length c := by
        rcases HOW.out.2 with ⟨e, h0⟩ | ⟨g, cp, cur, e, _⟩
        · exact ⟨none, 0, by rw [e, ← hkl, h0]⟩
        · exact ⟨some ⟨g, 0, none⟩, cp, by rw [e, ← hkl]⟩
      have HSTR : Hid (Strs wr (.slice no ss.length nc) ss) := Lib.hid (Strs.of_own (by have := HOW.out; rw [hss] at this; rw [← hkl] at this ⊢; exact this))
      have HSB : Hid (∀ a n c, Value.slice no ss.length nc = .slice (some a) n c → ¬ a.block = w.heap.size) := Lib.hid (fun a n c e => by
        simp only [Value.slice.injEq] at e
        have h1 := (HOW.out.lt a.block (by rw [e.1]; rfl)).1
        have h2 := HST.out.res.lt
        omega)
      obtain ⟨ie, hie⟩ : ∃ ie, namesTo bs i4 j = ie := ⟨_, rfl⟩
      rw [hie] at HST1 HNO HOP
      rw [hss] at HNO HOP
      clear hss HOW hsz hkl
      go_wp2_with fail
      ((with_reducible refine (reye_fin E ao c bs ie _ HST1.out.eye hl).mono ?_); rintro e w7 ⟨rfl, hk7⟩)
      have HST7 := Lib.hid (HST1.out.keep hk7)
      have HD7 := Lib.hid (HDD.out.same hk7)
      have HS7 := Lib.hid (HSTR.out.same hk7)
      clear hk7 HST1 HDD HSTR
      by_cases hF : ie = bs.length
      case neg =>
        have HNN : Hid (∀ c n ds ss, AnsRight c n (List.length ds) ss → ansBytes c n ds ss ≠ bs) := Lib.hid (fun c n ds' ss' hr hb => hF (by
          have h1 := (HNO.out c n ds' ss' hr hb).2.1
          have h2 := List.drop_eq_nil_iff.1 h1
          have := HST7.out.eye.le
          omega))
        have HEND : Hid (Same w (w7.setRow w.heap.size ans0.toArray) ∧ Whole (w7.setRow w.heap.size ans0.toArray) w.heap.size 41 ans0) := Lib.hid
          ⟨HST7.out.same.setRow _ _ (.inl (Nat.le_refl _)), HST7.out.res.row⟩
        rw [if_neg hF]
        clear hF
        go_wp2_with (first
          | (refine wpList_buildTo (by rfl) 41 _ (by rfl) _ (by rfl) ans0.toArray (by kernel_rfl) ?_)
          | (refine wpList_store_row (by rfl) 41 _ _ (by rfl) w.heap.size ans0.toArray (by rfl) (by rfl) 41 ans0.toArray HST7.out.res HIO.out rfl (ans_all _ _ _ _ _ _ _ _) ?_))
        refine bodyPost_ret (v := .tuple #[.agg ans0.toArray, .int .i64 22]) (results_row_tmp (p := 2) (u := 3) (ty := 41) rfl _ _ w.heap.size 41 _ (0, 0) _ (by rfl) HEND.out.2 Try.underlying41 rfl HIO.out) rfl
          ⟨HEND.out.1, 0, 0, [], [], .slice none 0 0, none, 0, 22, rfl, Reads.nil _ _ _, Strs.nil _ _ _, .inr ⟨HNN.out, rfl, rfl, rfl, rfl, rfl⟩⟩
      have HF := Lib.hid (show bs.drop ie = [] from List.drop_eq_nil_iff.2 (by omega))
      rw [if_pos hF]
      clear hF
      obtain ⟨a0, a1, a2, a3⟩ := cell_of_four (show w7.heap[G]? = some (.cells #[.int .i64 (n0 : Nat), .int .i64 (n1 : Nat), .slice ro ds.length rc, .slice no ss.length nc] 41 (0, 0)) from HST7.out.op)
      go_wp2_with fail
      ((with_reducible refine (refRightAnswer_ok (n0 : Nat) (n1 : Nat) ro no ds.length rc nc ss _ HS7.out).mono ?_); rintro e w8 ⟨b, rfl, hk8, hb⟩)
      clear a0 a1 a2 a3
      have HST8 := Lib.hid (HST7.out.keep hk8)
      have HD8 := Lib.hid (HD7.out.same hk8)
      have HS8 := Lib.hid (HS7.out.same hk8)
      clear hk8 HST7 HD7 HS7
      by_cases hR : AnsRight (n0 : Nat) (n1 : Nat) ds.length ss
      case neg =>
        obtain rfl : b = false := by
          cases b with
          | false => rfl
          | true => exact absurd (hb.1 rfl) hR
        have HNN : Hid (∀ c n ds ss, AnsRight c n (List.length ds) ss → ansBytes c n ds ss ≠ bs) := Lib.hid (fun c n ds' ss' hr hb => hR (HNO.out c n ds' ss' hr hb).2.2)
        have HEND : Hid (Same w (w8.setRow w.heap.size ans0.toArray) ∧ Whole (w8.setRow w.heap.size ans0.toArray) w.heap.size 41 ans0) := Lib.hid
          ⟨HST8.out.same.setRow _ _ (.inl (Nat.le_refl _)), HST8.out.res.row⟩
        clear hR hb
        go_wp2_with (first
          | (refine wpList_buildTo (by rfl) 41 _ (by rfl) _ (by rfl) ans0.toArray (by kernel_rfl) ?_)
          | (refine wpList_store_row (by rfl) 41 _ _ (by rfl) w.heap.size ans0.toArray (by rfl) (by rfl) 41 ans0.toArray HST8.out.res HIO.out rfl (ans_all _ _ _ _ _ _ _ _) ?_))
        refine bodyPost_ret (v := .tuple #[.agg ans0.toArray, .int .i64 22]) (results_row_tmp (p := 2) (u := 3) (ty := 41) rfl _ _ w.heap.size 41 _ (0, 0) _ (by rfl) HEND.out.2 Try.underlying41 rfl HIO.out) rfl
          ⟨HEND.out.1, 0, 0, [], [], .slice none 0 0, none, 0, 22, rfl, Reads.nil _ _ _, Strs.nil _ _ _, .inr ⟨HNN.out, rfl, rfl, rfl, rfl, rfl⟩⟩
      obtain rfl : b = true := hb.2 hR
      have HRY := Lib.hid hR
      have HBS := Lib.hid (HOP.out HBOK.out HF.out)
      have HEND : Hid (Same w (w8.setRow w.heap.size (ansCells (n0 : Nat) (n1 : Nat) (.slice ro ds.length rc) (.slice no ss.length nc)).toArray) ∧ Whole (w8.setRow w.heap.size (ansCells (n0 : Nat) (n1 : Nat) (.slice ro ds.length rc) (.slice no ss.length nc)).toArray) w.heap.size 41 (ansCells (n0 : Nat) (n1 : Nat) (.slice ro ds.length rc) (.slice no ss.length nc)) ∧ Reads (w8.setRow w.heap.size (ansCells (n0 : Nat) (n1 : Nat) (.slice ro ds.length rc) (.slice no ss.length nc)).toArray) (.slice ro ds.length rc) ds ∧ Strs (w8.setRow w.heap.size (ansCells (n0 : Nat) (n1 : Nat) (.slice ro ds.length rc) (.slice no ss.length nc)).toArray) (.slice no ss.length nc) ss) := Lib.hid
        ⟨HST8.out.same.setRow _ _ (.inl (Nat.le_refl _)), HST8.out.res.row, reads_past HD8.out HRP.out ((Keeps.refl _ _).setRow _ _ (.inr rfl)), HS8.out.keeps (S := fun q => q = w.heap.size) ((Keeps.refl _ _).setRow _ _ (.inr rfl)) HSB.out⟩
      clear hR hb
      go_wp2_with (first
        | (refine wpList_load_row (by rfl) 41 _ (by rfl) G (by rfl) 41 (ansCells (n0 : Nat) (n1 : Nat) (.slice ro ds.length rc) (.slice no ss.length nc)).toArray (0, 0) _ HST8.out.op Try.underlying41 rfl HIO.out ?_)
        | (refine wpList_store_row (by rfl) 41 _ _ (by rfl) w.heap.size (ansCells (n0 : Nat) (n1 : Nat) (.slice ro ds.length rc) (.slice no ss.length nc)).toArray (by rfl) (by rfl) 41 ans0.toArray HST8.out.res HIO.out rfl (ans_all _ _ _ _ _ _ _ _) ?_))
      refine bodyPost_ret (v := .tuple #[.agg (ansCells (n0 : Nat) (n1 : Nat) (.slice ro ds.length rc) (.slice no ss.length nc)).toArray, .int .i64 0]) (results_row_tmp (p := 2) (u := 3) (ty := 41) rfl _ _ w.heap.size 41 _ (0, 0) _ (by rfl) HEND.out.2.1 Try.underlying41 rfl HIO.out) rfl
        ⟨HEND.out.1, n0, n1, ds, ss, .slice ro ds.length rc, no, nc, 0, rfl, HEND.out.2.2.1, HEND.out.2.2.2, .inl ⟨HRY.out, HBS.out, rfl⟩⟩
end Go.Proofs.Ytickphkeeflbbaa
