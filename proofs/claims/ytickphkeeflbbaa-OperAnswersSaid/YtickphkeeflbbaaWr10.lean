/- The walk of OperWrites. -/
import Derived.Test.YtickphkeeflbbaaRefOp5
import Derived.Test.YtickphkeeflbbaaCopyOp
import Derived.Test.YtickphkeeflbbaaApart
namespace Go.Proofs.Ytickphkeeflbbaa
open Go.RowKit
set_option linter.unusedVariables false

def opB (k off n : Int) (p t : ByteArray) (ds : List UInt8) : List UInt8 := if OpRight k off n p t ds.length then opBytes k off n p t ds else []
def opE (k off n : Int) (p t : ByteArray) (ds : List UInt8) : Int := if OpRight k off n p t ds.length then 0 else 1
theorem write_out (k off n : Int) (p t : ByteArray) (ao : Option Addr) (cap : Nat) (ds : List UInt8) (w : World) (hx : Bytes w (.slice ao ds.length cap) ds) :
    Calls Try.prog 10 #[opVal k off n p t (.slice ao ds.length cap)] w fun e w' => ∃ v, e = .returned (.tuple #[v, .int .i64 (opE k off n p t ds)]) ∧ Reads w' v (opB k off n p t ds) ∧ Same w w' := by
  unfold opB opE
  by_cases h : OpRight k off n p t ds.length
  · rw [if_pos h, if_pos h]
    exact (write_yes k off n p t ao cap ds w h hx).mono fun e w' ⟨v, h1, h2, h3⟩ => ⟨v, h1, Reads.of_own h2 rfl, h3⟩
  · rw [if_neg h, if_neg h]
    exact (write_no k off n p t ao ds.length cap w h).mono fun e w' ⟨h1, h3⟩ => ⟨_, h1, Reads.nil _ _ _, h3⟩
theorem refWrite_out (k off n : Int) (p t : ByteArray) (ao : Option Addr) (cap : Nat) (ds : List UInt8) (w : World) (hx : Bytes w (.slice ao ds.length cap) ds) :
    Calls Try.prog 11 #[opVal k off n p t (.slice ao ds.length cap)] w fun e w' => ∃ v, e = .returned (.tuple #[v, .int .i64 (opE k off n p t ds)]) ∧ Reads w' v (opB k off n p t ds) ∧ Same w w' := by
  unfold opB opE
  by_cases h : OpRight k off n p t ds.length
  · rw [if_pos h, if_pos h]
    exact refWrite_yes k off n p t ao cap ds w h hx
  · rw [if_neg h, if_neg h]
    exact (refWrite_no k off n p t ao ds.length cap w h).mono fun e w' ⟨g, h1, h3⟩ => ⟨_, h1, Reads.nil _ _ _, h3⟩
theorem OpIs.unique {bs : List UInt8} {k off n k2 off2 n2 : Int} {p t p2 t2 : ByteArray} {ds ds2 : List UInt8} {er er2 : Int} (h : OpIs bs k off n p t ds er) (h2 : OpIs bs k2 off2 n2 p2 t2 ds2 er2) :
    (k = k2 ∧ p = p2 ∧ t = t2 ∧ off = off2 ∧ n = n2 ∧ ds = ds2) ∧ er = er2 := by
  rcases h with ⟨h, hb, rfl⟩ | ⟨hno, rfl, rfl, rfl, rfl, rfl, rfl, rfl⟩
  · rcases h2 with ⟨h2, hb2, rfl⟩ | ⟨hno2, _⟩
    · exact ⟨(opBytes_inj h h2).1 (hb.trans hb2.symm), rfl⟩
    · exact absurd hb (hno2 _ _ _ _ _ _ h)
  · rcases h2 with ⟨h2, hb2, _⟩ | ⟨hno2, rfl, rfl, rfl, rfl, rfl, rfl, rfl⟩
    · exact absurd hb2 (hno _ _ _ _ _ _ h2)
    · exact ⟨⟨rfl, rfl, rfl, rfl, rfl, rfl⟩, rfl⟩
theorem wpList_load_row_g {P : Program} {ops : Array Oper} {rest : List Oper} {o : Oper} {a : Act} {w : World} {Q : Exit → Act → World → Prop} (hw : Region.wanted o (yielded ops a.tmps) = true) (ty : TypeId) (x : Operand) (ho : o.op = .load ty x)
    (g : Nat) (hx : a.eval x = .pointer (some ⟨g, 0, none⟩)) (t : TypeId) (cs : Array Value) (fr : Nat × Nat) (d : TypeDesc) (hg : w.heap[g]? = some (.cells cs t fr))
    (hu : P.underlying ty = some d) (hd : (match d with | .struct _ | .array _ _ => true | _ => false) = true) (hi : (P.info? ty).map (·.size) = some cs.size)
    (h : wpList P ops Q rest (a.put o.dst (.agg cs)) w) : wpList P ops Q (o :: rest) a w :=
  wpList_step fun K hK => by rw [if_pos hw]; exact wp_load_row ty x ho g hx t cs fr d hg hu hd hi (hK _ _ h)
theorem stored (w : World) (cs : List Value) : Same w ((w.alloc (.cells op0.toArray 25)).setRow w.heap.size cs.toArray) ∧ Whole ((w.alloc (.cells op0.toArray 25)).setRow w.heap.size cs.toArray) w.heap.size 25 cs ∧
    (w.alloc (.cells op0.toArray 25)).heap[w.heap.size]? = some (.cells op0.toArray 25 (0, 0)) :=
  ⟨((Keeps.refl _ _).alloc _).setRow _ _ (.inl (Nat.le_refl _)), Whole.row (cs := op0) (heap_alloc_new w _), heap_alloc_new w _⟩

set_option maxRecDepth 100000 in
set_option maxHeartbeats 12800000 in
theorem opwrites_ok (k off n : Int) (p t : ByteArray) (ao ro : Option Addr) (cap rc : Nat) (ds raw : List UInt8) (w : World) (hx : Bytes w (.slice ao ds.length cap) ds) (hsx : ∀ a, ao = some a → ds ≠ [] → a.spot = none)
    (hr : Bytes w (.slice ro raw.length rc) raw) (hsr : ∀ a, ro = some a → raw ≠ [] → a.spot = none) (hrc : raw.length ≤ rc) :
    Calls Try.prog 4 #[opVal k off n p t (.slice ao ds.length cap), .slice ro raw.length rc] w fun e w' => e = .returned (.bool true) ∧ Same w w' := by
  obtain ⟨i0, hi0, hz0, hz1, hz2⟩ := info_parts Try.info5
  have hzs := Try.zeroOp
  have HIO := Lib.hid Try.sizeOp
  have HX := Lib.hid hx
  have HSX := Lib.hid hsx
  have HR := Lib.hid hr
  have HSR := Lib.hid hsr
  obtain ⟨w0, hw0⟩ : ∃ w0, w.alloc (.cells #[.int .i64 k, .string p, .string t, .int .i64 off, .int .i64 n, .slice ao ds.length cap] 25) = w0 := ⟨_, rfl⟩
  have HW0 := Lib.hid hw0
  have HK0 : Hid (Same w w0) := Lib.hid (by rw [← hw0]; exact (Keeps.refl _ _).alloc _)
  have HB0 : Hid (Whole w0 w.heap.size 25 (opCells k off n p t (.slice ao ds.length cap))) := Lib.hid (by rw [← hw0]; exact heap_alloc_new w _)
  clear hx hsx hr hsr hw0
  go_enter Try.func4, Try.ntmps4
  go_wp2_with fail
  rw [HW0.out]
  ((with_reducible refine (speaks10 _).mono ?_); rintro e w1 ⟨rfl, hk⟩)
  have HB1 := Lib.hid (HB0.out.keep hk (fun e => e))
  have HK1 : Hid (Same w w1) := Lib.hid (HK0.out.trans hk (fun _ _ e => e))
  clear hk HB0 HK0 HW0
  go_wp2_with (first
    | (refine wpList_load_row (by rfl) 25 _ (by rfl) w.heap.size (by rfl) 25 (opCells k off n p t (.slice ao ds.length cap)).toArray (0, 0) _ HB1.out Try.underlying25 rfl HIO.out ?_))
  refine (great_op k off n p t ao ds.length cap _).mono ?_
  rintro e w2 ⟨rfl, hk⟩
  have HB2 := Lib.hid (HB1.out.keep hk (fun e => e))
  have HK2 : Hid (Same w w2) := Lib.hid (HK1.out.trans hk (fun _ _ e => e))
  clear hk HB1 HK1
  by_cases q : 400 < p.size ∨ 400 < t.size ∨ 400 < ds.length
  · rw [decide_eq_true q]
    clear q
    go_wp2
    go_ret
    exact ⟨rfl, HK2.out⟩
  rw [decide_eq_false q]
  have hdl : ds.length ≤ 400 := by omega
  clear q
  by_cases q : (1000 : Int) < (raw.length : Int)
  · go_wp2
    go_ret
    exact ⟨rfl, HK2.out⟩
  go_wp2_with (first
    | (refine wpList_load_row (by rfl) 25 _ (by rfl) w.heap.size (by rfl) 25 (opCells k off n p t (.slice ao ds.length cap)).toArray (0, 0) _ HB2.out Try.underlying25 rfl HIO.out ?_))
  refine (copyOp_any k off n p t ao cap ds _ (HX.out.same HK2.out) (by omega)).mono ?_
  rintro e w3 ⟨hk, g3, c3, rfl, ho3⟩
  have HB3 := Lib.hid (HB2.out.keep hk (fun e => e))
  have HK3 : Hid (Same w w3) := Lib.hid (HK2.out.trans hk (fun _ _ e => e))
  have HI3 := Lib.hid (Reads.of_own ho3 rfl)
  have HOE := Lib.hid (own_empty w3 5)
  have HBE : Hid (Bytes (w3.alloc (.cells #[] 5)) (.slice ro raw.length rc) raw) := Lib.hid (HR.out.same (HK3.out.alloc _))
  clear hk ho3 HB2 HK2
  go_wp2_with (at_builtin; refine wpList_append_bytes (by rfl) _ _ 23 5 i0 (by rfl) Try.underlying23 hi0 hz0 hz1 hz2 w3.heap.size w3.heap.size 0 [] raw _ (by rfl) (by rfl) HOE.out HBE.out (by simp; omega) (by simp) ?_)
  intro g4 c4 w4 ho4 hg4 hat4
  try simp only [List.length_nil, Nat.zero_add, List.nil_append] at ho4
  try simp only [List.length_nil, Nat.zero_add]
  have hk34 : Same w3 w4 := ((Keeps.refl (fun _ => False) w3).alloc _).grown hg4 (fun k e hk => by simp only [Option.some.injEq] at e; omega)
  obtain ⟨k45, g5, n5⟩ := stored w4 (opCells k off n p t (.slice (some ⟨g3, 0, none⟩) ds.length c3))
  obtain ⟨w5, hw5⟩ : ∃ w5, (w4.alloc (.cells op0.toArray 25)).setRow w4.heap.size (opCells k off n p t (.slice (some ⟨g3, 0, none⟩) ds.length c3)).toArray = w5 := ⟨_, rfl⟩
  rw [hw5] at k45 g5
  have HW5 := Lib.hid hw5
  have HN5 := Lib.hid n5
  have k35 : Same w3 w5 := hk34.trans k45 (fun _ _ e => e)
  have HC4 : Hid (Reads w5 (.slice (some ⟨g4, 0, none⟩) raw.length c4) raw) := Lib.hid ((Reads.of_own ho4 rfl).same k45)
  have HB5 := Lib.hid (HB3.out.keep k35 (fun e => e))
  have HK5 : Hid (Same w w5) := Lib.hid (HK3.out.trans k35 (fun _ _ e => e))
  have HI5 := Lib.hid (HI3.out.same k35)
  have HG5 := Lib.hid g5
  clear ho4 hg4 hat4 hk34 k45 g5 n5 hw5 k35 HOE HBE HB3 HK3 HI3
  go_wp2_with (first
    | (refine wpList_store_row (by rfl) 25 _ _ (by rfl) w4.heap.size (opCells k off n p t (.slice (some ⟨g3, 0, none⟩) ds.length c3)).toArray (by rfl) (by rfl) 25 op0.toArray HN5.out HIO.out rfl (op_all _ _ _ _ _ _ _ _) ?_; rw [HW5.out])
    | (refine wpList_load_row (by rfl) 25 _ (by rfl) w4.heap.size (by rfl) 25 (opCells k off n p t (.slice (some ⟨g3, 0, none⟩) ds.length c3)).toArray (0, 0) _ HG5.out Try.underlying25 rfl HIO.out ?_))
  generalize hG5 : w4.heap.size = G5 at *
  obtain ⟨_, _, e5, hb5, _⟩ := HI5.out
  simp only [Value.slice.injEq, true_and] at e5
  refine (write_out k off n p t (some ⟨g3, 0, none⟩) c3 ds _ hb5).mono ?_
  rintro e w6 ⟨v6, rfl, hr6, hk⟩
  have HB6 := Lib.hid (HB5.out.keep hk (fun e => e))
  have HK6 : Hid (Same w w6) := Lib.hid (HK5.out.trans hk (fun _ _ e => e))
  have HI6 := Lib.hid (HI5.out.same hk)
  have HC6 := Lib.hid (HC4.out.same hk)
  have HG6 := Lib.hid (HG5.out.keep hk (fun e => e))
  have HV6 := Lib.hid hr6
  clear hk hr6 hb5 e5 HB5 HK5 HI5 HC4 HG5 HN5 HW5
  go_wp2_with (first
    | (refine wpList_load_row (by rfl) 25 _ (by rfl) w.heap.size (by rfl) 25 (opCells k off n p t (.slice ao ds.length cap)).toArray (0, 0) _ HB6.out Try.underlying25 rfl HIO.out ?_))
  refine (refWrite_out k off n p t ao cap ds _ (HX.out.same HK6.out)).mono ?_
  rintro e w7 ⟨v7, rfl, hr7, hk⟩
  have HB7 := Lib.hid (HB6.out.keep hk (fun e => e))
  have HK7 : Hid (Same w w7) := Lib.hid (HK6.out.trans hk (fun _ _ e => e))
  have HI7 := Lib.hid (HI6.out.same hk)
  have HC7 := Lib.hid (HC6.out.same hk)
  have HG7 := Lib.hid (HG6.out.keep hk (fun e => e))
  have HV7 := Lib.hid (HV6.out.same hk)
  have HU7 := Lib.hid hr7
  clear hk hr7 HB6 HK6 HI6 HC6 HG6 HV6
  go_wp2_with fail
  obtain ⟨_, _, e7, hb7, hs7, hc7⟩ := HC7.out
  simp only [Value.slice.injEq, true_and] at e7
  obtain ⟨rfl, rfl⟩ := e7
  refine (opRead_any (some ⟨g4, 0, none⟩) c4 raw _ hb7 hs7 hc7 (by omega) (fun e => by simp at e)).mono ?_
  rintro e w8 ⟨hk, k1, off1, n1, p1, t1, ds1, v8, er1, rfl, hr8, ho8⟩
  have HB8 := Lib.hid (HB7.out.keep hk (fun e => e))
  have HK8 : Hid (Same w w8) := Lib.hid (HK7.out.trans hk (fun _ _ e => e))
  have HI8 := Lib.hid (HI7.out.same hk)
  have HC8 := Lib.hid (HC7.out.same hk)
  have HG8 := Lib.hid (HG7.out.keep hk (fun e => e))
  have HV8 := Lib.hid (HV7.out.same hk)
  have HU8 := Lib.hid (HU7.out.same hk)
  obtain ⟨xo, xc, rfl, hbx, hsx, hcx⟩ := hr8
  have HX8 : Hid (Bytes w8 (.slice xo ds1.length xc) ds1) := Lib.hid hbx
  have HSX8 := Lib.hid hsx
  have HO8 := Lib.hid ho8
  clear hbx hsx hcx ho8 hb7 hs7 hc7
  clear hk HB7 HK7 HI7 HC7 HG7 HV7 HU7
  obtain ⟨hk, g9, n9⟩ := stored w8 (opCells k1 off1 n1 p1 t1 (.slice xo ds1.length xc))
  obtain ⟨w9, hw9⟩ : ∃ w9, (w8.alloc (.cells op0.toArray 25)).setRow w8.heap.size (opCells k1 off1 n1 p1 t1 (.slice xo ds1.length xc)).toArray = w9 := ⟨_, rfl⟩
  rw [hw9] at hk g9
  have HW9 := Lib.hid hw9
  have HN9 := Lib.hid n9
  have HF9 := Lib.hid g9
  have HX9 := Lib.hid (HX8.out.same hk)
  have HB9 := Lib.hid (HB8.out.keep hk (fun e => e))
  have HK9 : Hid (Same w w9) := Lib.hid (HK8.out.trans hk (fun _ _ e => e))
  have HI9 := Lib.hid (HI8.out.same hk)
  have HC9 := Lib.hid (HC8.out.same hk)
  have HG9 := Lib.hid (HG8.out.keep hk (fun e => e))
  have HV9 := Lib.hid (HV8.out.same hk)
  have HU9 := Lib.hid (HU8.out.same hk)
  clear hk HB8 HK8 HI8 HC8 HG8 HV8 HU8 hw9 n9 g9 HX8
  go_wp2_with (first
    | (refine wpList_store_row (by rfl) 25 _ _ (by rfl) w8.heap.size (opCells k1 off1 n1 p1 t1 (.slice xo ds1.length xc)).toArray (by rfl) (by rfl) 25 op0.toArray HN9.out HIO.out rfl (op_all _ _ _ _ _ _ _ _) ?_; rw [HW9.out]))
  generalize hG9 : w8.heap.size = G9 at *
  clear HN9 HW9
  refine (refRead_any ro rc raw _ (HR.out.same HK9.out) hrc (by omega)).mono ?_
  rintro e w10 ⟨hk, k2, off2, n2, p2, t2, ds2, v10, er2, rfl, hr10, ho10⟩
  obtain ⟨⟨rfl, rfl, rfl, rfl, rfl, rfl⟩, rfl⟩ := HO8.out.unique ho10
  obtain ⟨yo, yc, rfl, hby, hsy, hcy⟩ := hr10
  have HY10 : Hid (Bytes w10 (.slice yo ds1.length yc) ds1) := Lib.hid hby
  have HSY10 := Lib.hid hsy
  have HX10 := Lib.hid (HX9.out.same hk)
  have HF10 := Lib.hid (HF9.out.keep hk (fun e => e))
  have HB10 := Lib.hid (HB9.out.keep hk (fun e => e))
  have HK10 : Hid (Same w w10) := Lib.hid (HK9.out.trans hk (fun _ _ e => e))
  have HI10 := Lib.hid (HI9.out.same hk)
  have HC10 := Lib.hid (HC9.out.same hk)
  have HG10 := Lib.hid (HG9.out.keep hk (fun e => e))
  have HV10 := Lib.hid (HV9.out.same hk)
  have HU10 := Lib.hid (HU9.out.same hk)
  clear hk HB9 HK9 HI9 HC9 HG9 HV9 HU9 hby hsy hcy ho10 HX9 HF9
  obtain ⟨hk, g11, n11⟩ := stored w10 (opCells k1 off1 n1 p1 t1 (.slice yo ds1.length yc))
  obtain ⟨w11, hw11⟩ : ∃ w11, (w10.alloc (.cells op0.toArray 25)).setRow w10.heap.size (opCells k1 off1 n1 p1 t1 (.slice yo ds1.length yc)).toArray = w11 := ⟨_, rfl⟩
  rw [hw11] at hk g11
  have HW11 := Lib.hid hw11
  have HN11 := Lib.hid n11
  have HH11 := Lib.hid g11
  have HX11 := Lib.hid (HX10.out.same hk)
  have HY11 := Lib.hid (HY10.out.same hk)
  have HF11 := Lib.hid (HF10.out.keep hk (fun e => e))
  have HB11 := Lib.hid (HB10.out.keep hk (fun e => e))
  have HK11 : Hid (Same w w11) := Lib.hid (HK10.out.trans hk (fun _ _ e => e))
  have HI11 := Lib.hid (HI10.out.same hk)
  have HC11 := Lib.hid (HC10.out.same hk)
  have HG11 := Lib.hid (HG10.out.keep hk (fun e => e))
  have HV11 := Lib.hid (HV10.out.same hk)
  have HU11 := Lib.hid (HU10.out.same hk)
  clear hk HB10 HK10 HI10 HC10 HG10 HV10 HU10 hw11 n11 g11 HX10 HY10 HF10
  have c6 := run_reads HV11.out
  have c7 := run_reads HU11.out
  obtain ⟨B, hB⟩ : ∃ B, opB k off n p t ds = B := ⟨_, rfl⟩
  obtain ⟨Er, hEr⟩ : ∃ Er, opE k off n p t ds = Er := ⟨_, rfl⟩
  rw [hB] at c6 c7 HV11 HU11
  rw [hEr]
  have HBB := Lib.hid hB
  have HEr := Lib.hid hEr
  clear hB hEr
  go_wp2_with (first
    | (refine wpList_store_row (by rfl) 25 _ _ (by rfl) w10.heap.size (opCells k1 off1 n1 p1 t1 (.slice yo ds1.length yc)).toArray (by rfl) (by rfl) 25 op0.toArray HN11.out HIO.out rfl (op_all _ _ _ _ _ _ _ _) ?_; rw [HW11.out])
    | (refine wpList_load_row_g (by rfl) 25 _ (by rfl) G9 (by rfl) 25 (opCells k1 off1 n1 p1 t1 (.slice xo ds1.length xc)).toArray (0, 0) _ HF11.out Try.underlying25 rfl HIO.out ?_)
    | (refine wpList_load_row_g (by rfl) 25 _ (by rfl) w10.heap.size (by rfl) 25 (opCells k1 off1 n1 p1 t1 (.slice yo ds1.length yc)).toArray (0, 0) _ HH11.out Try.underlying25 rfl HIO.out ?_))
  clear c6 c7 HN11 HW11
  refine (sameOp_ok k1 off1 n1 k1 off1 n1 p1 t1 p1 t1 xo yo xc yc ds1 ds1 _ HX11.out HY11.out HSX8.out HSY10.out).mono ?_
  rintro e w12 ⟨rfl, hk⟩
  rw [decide_eq_true ⟨rfl, rfl, rfl, rfl, rfl, rfl⟩]
  have HB12 := Lib.hid (HB11.out.keep hk (fun e => e))
  have HK12 : Hid (Same w w12) := Lib.hid (HK11.out.trans hk (fun _ _ e => e))
  have HI12 := Lib.hid (HI11.out.same hk)
  have HC12 := Lib.hid (HC11.out.same hk)
  have HG12 := Lib.hid (HG11.out.keep hk (fun e => e))
  have HV12 := Lib.hid (HV11.out.same hk)
  have HU12 := Lib.hid (HU11.out.same hk)
  clear hk HB11 HK11 HI11 HC11 HG11 HV11 HU11 HX11 HY11 HF11 HH11
  obtain ⟨_, _, e12, hb12, hs12, _⟩ := HI12.out
  go_wp2_with (first
    | (refine wpList_load_row_g (by rfl) 25 _ (by rfl) G5 (by rfl) 25 (opCells k off n p t (.slice (some ⟨g3, 0, none⟩) ds.length c3)).toArray (0, 0) _ HG12.out Try.underlying25 rfl HIO.out ?_)
    | (refine wpList_load_row_g (by rfl) 25 _ (by rfl) w.heap.size (by rfl) 25 (opCells k off n p t (.slice ao ds.length cap)).toArray (0, 0) _ HB12.out Try.underlying25 rfl HIO.out ?_))
  refine (sameOp_ok k off n k off n p t p t (some ⟨g3, 0, none⟩) ao c3 cap ds ds _ hb12 (HX.out.same HK12.out) (fun a e _ => by cases e; rfl) HSX.out).mono ?_
  rintro e w13 ⟨rfl, hk⟩
  rw [decide_eq_true ⟨rfl, rfl, rfl, rfl, rfl, rfl⟩]
  have HB13 := Lib.hid (HB12.out.keep hk (fun e => e))
  have HK13 : Hid (Same w w13) := Lib.hid (HK12.out.trans hk (fun _ _ e => e))
  have HI13 := Lib.hid (HI12.out.same hk)
  have HC13 := Lib.hid (HC12.out.same hk)
  have HG13 := Lib.hid (HG12.out.keep hk (fun e => e))
  have HV13 := Lib.hid (HV12.out.same hk)
  have HU13 := Lib.hid (HU12.out.same hk)
  clear hk HB12 HK12 HI12 HC12 HG12 HV12 HU12 hb12 hs12
  have c13 := run_reads HC13.out
  have r13 := run_reads (⟨ro, rc, rfl, HR.out.same HK13.out, HSR.out, hrc⟩ : Reads w13 (.slice ro raw.length rc) raw)
  by_cases hO : OpRight k off n p t ds.length
  case neg =>
    have hEr : Er = 1 := by rw [← HEr.out]; unfold opE; rw [if_neg hO]
    subst hEr
    go_wp2
    go_ret
    exact ⟨rfl, HK13.out⟩
  have hEr : Er = 0 := by rw [← HEr.out]; unfold opE; rw [if_pos hO]
  subst hEr
  have hBv : B = opBytes k off n p t ds := by rw [← HBB.out]; unfold opB; rw [if_pos hO]
  have HOI : Hid (OpIs B k off n p t ds 0) := Lib.hid (.inl ⟨hO, hBv.symm, rfl⟩)
  have HBL : Hid (11 ≤ B.length ∧ B.length ≤ 1000) := Lib.hid (by
    have := opBytes_length k off n p t ds
    obtain ⟨_, _, _, _, _, _, _⟩ := hO
    rw [hBv]; omega)
  clear hO hBv HEr HBB
  obtain ⟨vo, vc, rfl, hbv, hsv, hcv⟩ := HV13.out
  have HVB := Lib.hid hbv
  have HVN : Hid (vo = none → vc = 0) := Lib.hid (fun e => by
    subst e
    rcases hbv with ⟨a, c', h, _⟩ | ⟨c', h, h2⟩
    · simp at h
    · have := HBL.out.1; rw [h2] at this; simp at this)
  clear hbv
  go_wp2_with fail
  refine (opRead_any vo vc B _ HVB.out hsv hcv (by have := HBL.out.2; omega) HVN.out).mono ?_
  rintro e w14 ⟨hk, k3, off3, n3, p3, t3, ds3, v14, er3, rfl, hr14, ho14⟩
  obtain ⟨⟨rfl, rfl, rfl, rfl, rfl, rfl⟩, rfl⟩ := HOI.out.unique ho14
  obtain ⟨zo, zc, rfl, hbz, hsz, hcz⟩ := hr14
  have HZ14 := Lib.hid hbz
  have HSZ := Lib.hid hsz
  have HB14 := Lib.hid (HB13.out.keep hk (fun e => e))
  have HK14 : Hid (Same w w14) := Lib.hid (HK13.out.trans hk (fun _ _ e => e))
  clear hk hbz hsz hcz ho14 hsv hcv HVB HVN c13 r13 HB13 HK13 HI13 HC13 HG13 HV13 HU13
  obtain ⟨hk, g15, n15⟩ := stored w14 (opCells k off n p t (.slice zo ds.length zc))
  obtain ⟨w15, hw15⟩ : ∃ w15, (w14.alloc (.cells op0.toArray 25)).setRow w14.heap.size (opCells k off n p t (.slice zo ds.length zc)).toArray = w15 := ⟨_, rfl⟩
  rw [hw15] at hk g15
  have HW15 := Lib.hid hw15
  have HN15 := Lib.hid n15
  have HH15 := Lib.hid g15
  have HZ15 := Lib.hid (HZ14.out.same hk)
  have HB15 := Lib.hid (HB14.out.keep hk (fun e => e))
  have HK15 : Hid (Same w w15) := Lib.hid (HK14.out.trans hk (fun _ _ e => e))
  clear hk g15 n15 hw15 HZ14 HB14 HK14
  go_wp2_with (first
    | (refine wpList_store_row (by rfl) 25 _ _ (by rfl) w14.heap.size (opCells k off n p t (.slice zo ds.length zc)).toArray (by rfl) (by rfl) 25 op0.toArray HN15.out HIO.out rfl (op_all _ _ _ _ _ _ _ _) ?_; rw [HW15.out])
    | (refine wpList_load_row_g (by rfl) 25 _ (by rfl) w14.heap.size (by rfl) 25 (opCells k off n p t (.slice zo ds.length zc)).toArray (0, 0) _ HH15.out Try.underlying25 rfl HIO.out ?_)
    | (refine wpList_load_row_g (by rfl) 25 _ (by rfl) w.heap.size (by rfl) 25 (opCells k off n p t (.slice ao ds.length cap)).toArray (0, 0) _ HB15.out Try.underlying25 rfl HIO.out ?_))
  refine (sameOp_ok k off n k off n p t p t zo ao zc cap ds ds _ HZ15.out (HX.out.same HK15.out) HSZ.out HSX.out).mono ?_
  rintro e w16 ⟨rfl, hk⟩
  rw [decide_eq_true ⟨rfl, rfl, rfl, rfl, rfl, rfl⟩]
  have HK16 : Hid (Same w w16) := Lib.hid (HK15.out.trans hk (fun _ _ e => e))
  clear hk
  go_wp2
  go_ret
  exact ⟨rfl, HK16.out⟩
end Go.Proofs.Ytickphkeeflbbaa
