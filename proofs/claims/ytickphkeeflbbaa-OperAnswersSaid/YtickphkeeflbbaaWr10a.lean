/- The walk of OperAnswers. -/
import Derived.Test.YtickphkeeflbbaaRefAns3
import Derived.Test.YtickphkeeflbbaaCopyAns
import Derived.Test.YtickphkeeflbbaaApart2
import Derived.Test.YtickphkeeflbbaaWr10
namespace Go.Proofs.Ytickphkeeflbbaa
open Go.RowKit
set_option linter.unusedVariables false

/-- Two values that read as an answer's data and names. -/
def AnsAt (w : World) (x y : Value) (ds : List UInt8) (ss : List ByteArray) : Prop := Reads w x ds ∧ ∃ no nc, y = .slice no ss.length nc ∧ Strs w y ss
theorem AnsAt.same {w w' : World} {x y : Value} {ds : List UInt8} {ss : List ByteArray} (h : AnsAt w x y ds ss) (k : Same w w') : AnsAt w' x y ds ss := by
  obtain ⟨h1, no, nc, e, h2⟩ := h
  exact ⟨h1.same k, no, nc, e, h2.same k⟩
theorem AnsAt.all {w : World} {x y : Value} {ds : List UInt8} {ss : List ByteArray} (h : AnsAt w x y ds ss) (c n : Int) : (ansCells c n x y).toArray.all (·.oneCell') = true := by
  obtain ⟨⟨ao, cp, rfl, _⟩, no, nc, rfl, _⟩ := h
  exact ans_all _ _ _ _ _ _ _ _
instance (s : ByteArray) : Decidable (NameOk s) := by unfold NameOk; infer_instance
instance (c n : Int) (l : Nat) (ss : List ByteArray) : Decidable (AnsRight c n l ss) := by unfold AnsRight; infer_instance
def ansB (c n : Int) (ds : List UInt8) (ss : List ByteArray) : List UInt8 := if AnsRight c n ds.length ss then ansBytes c n ds ss else []
def ansE (c n : Int) (ds : List UInt8) (ss : List ByteArray) : Int := if AnsRight c n ds.length ss then 0 else 1
theorem writeAns_out (c n : Int) (x y : Value) (ds : List UInt8) (ss : List ByteArray) (w : World) (h : AnsAt w x y ds ss) :
    Calls Try.prog 16 #[ansVal c n x y] w fun e w' => ∃ v, e = .returned (.tuple #[v, .int .i64 (ansE c n ds ss)]) ∧ Reads w' v (ansB c n ds ss) ∧ Same w w' := by
  obtain ⟨⟨ao, cp, rfl, hb, _⟩, no, nc, rfl, hs⟩ := h
  unfold ansB ansE
  by_cases q : AnsRight c n ds.length ss
  · rw [if_pos q, if_pos q]
    exact (writeAnswer_yes c n ao no cp nc ds ss w hb hs q).mono fun e w' ⟨v, h1, h2, h3⟩ => ⟨v, h1, Reads.of_own h2 rfl, h3⟩
  · rw [if_neg q, if_neg q]
    exact (writeAnswer_no c n ao no ds.length cp nc ss w hs q).mono fun e w' ⟨h1, h3⟩ => ⟨_, h1, Reads.nil _ _ _, h3⟩
theorem refWriteAns_out (c n : Int) (x y : Value) (ds : List UInt8) (ss : List ByteArray) (w : World) (h : AnsAt w x y ds ss) :
    Calls Try.prog 17 #[ansVal c n x y] w fun e w' => ∃ v, e = .returned (.tuple #[v, .int .i64 (ansE c n ds ss)]) ∧ Reads w' v (ansB c n ds ss) ∧ Same w w' := by
  obtain ⟨⟨ao, cp, rfl, hb, _⟩, no, nc, rfl, hs⟩ := h
  unfold ansB ansE
  by_cases q : AnsRight c n ds.length ss
  · rw [if_pos q, if_pos q]
    exact refWriteAns_yes c n ao no cp nc ds ss w hb hs q
  · rw [if_neg q, if_neg q]
    exact (refWriteAns_no c n ao no ds.length cp nc ss w hs q).mono fun e w' ⟨g, h1, h3⟩ => ⟨_, h1, Reads.nil _ _ _, h3⟩
theorem sameAns_at (c n c2 n2 : Int) (x y x2 y2 : Value) (ds ds2 : List UInt8) (ss tt : List ByteArray) (w : World) (h : AnsAt w x y ds ss) (h2 : AnsAt w x2 y2 ds2 tt) (hl : ss.length ≤ 140737488351232) :
    Calls Try.prog 20 #[ansVal c n x y, ansVal c2 n2 x2 y2] w fun e w' => AnsPost w e w' (c = c2 ∧ n = n2 ∧ ds = ds2 ∧ ss = tt) := by
  obtain ⟨⟨ao, cp, rfl, hb, hsp, _⟩, no, nc, rfl, hs⟩ := h
  obtain ⟨⟨ao2, cp2, rfl, hb2, hsp2, _⟩, no2, nc2, rfl, hs2⟩ := h2
  exact sameAns_ok c n c2 n2 ao ao2 no no2 cp cp2 nc nc2 ds ds2 ss tt w hb hb2 hsp hsp2 hs hs2 hl
theorem readAns_at (v : Value) (bs : List UInt8) (w : World) (h : Reads w v bs) (hl : bs.length ≤ 140737488351232) (hn : ∀ n c, v = .slice none n c → c = 0) :
    Calls Try.prog 18 #[v] w fun e w' => Same w w' ∧ ∃ cc n ds ss x y er, e = .returned (.tuple #[ansVal cc n x y, .int .i64 er]) ∧ AnsAt w' x y ds ss ∧ AnsIs bs cc n ds ss er := by
  obtain ⟨ao, c, rfl, hb, hsp, hc⟩ := h
  exact (ansRead_any ao c bs w hb hsp hc hl (fun e => hn _ _ (by rw [e]))).mono fun e w' ⟨hk, cc, n, ds, ss, v, no, nc, er, h1, h2, h3, h4⟩ => ⟨hk, cc, n, ds, ss, v, _, er, h1, ⟨h2, no, nc, rfl, h3⟩, h4⟩
theorem refReadAns_at (v : Value) (bs : List UInt8) (w : World) (h : Reads w v bs) (hl : bs.length ≤ 140737488351232) :
    Calls Try.prog 19 #[v] w fun e w' => Same w w' ∧ ∃ cc n ds ss x y er, e = .returned (.tuple #[ansVal cc n x y, .int .i64 er]) ∧ AnsAt w' x y ds ss ∧ AnsIs bs cc n ds ss er := by
  obtain ⟨ao, c, rfl, hb, hsp, hc⟩ := h
  exact (refAnsRead_any ao c bs w hb hc hl).mono fun e w' ⟨hk, cc, n, ds, ss, v, no, nc, er, h1, h2, h3, h4⟩ => ⟨hk, cc, n, ds, ss, v, _, er, h1, ⟨h2, no, nc, rfl, h3⟩, h4⟩
theorem AnsIs.unique {bs : List UInt8} {c n c2 n2 : Int} {ds ds2 : List UInt8} {ss tt : List ByteArray} {er er2 : Int} (h : AnsIs bs c n ds ss er) (h2 : AnsIs bs c2 n2 ds2 tt er2) :
    (c = c2 ∧ n = n2 ∧ ds = ds2 ∧ ss = tt) ∧ er = er2 := by
  rcases h with ⟨h, hb, rfl⟩ | ⟨hno, rfl, rfl, rfl, rfl, rfl⟩
  · rcases h2 with ⟨h2, hb2, rfl⟩ | ⟨hno2, _⟩
    · exact ⟨(ansBytes_inj h h2).1 (hb.trans hb2.symm), rfl⟩
    · exact absurd hb (hno2 _ _ _ _ h)
  · rcases h2 with ⟨h2, hb2, _⟩ | ⟨hno2, rfl, rfl, rfl, rfl, rfl⟩
    · exact absurd hb2 (hno _ _ _ _ h2)
    · exact ⟨⟨rfl, rfl, rfl, rfl⟩, rfl⟩
theorem AnsIs.few {bs : List UInt8} {c n : Int} {ds : List UInt8} {ss : List ByteArray} {er : Int} (h : AnsIs bs c n ds ss er) : ss.length ≤ 6 := by
  rcases h with ⟨⟨_, _, _, h, _⟩, _⟩ | ⟨_, _, _, _, rfl, _⟩
  · exact h
  · simp
theorem storedA (w : World) (cs : List Value) : Same w ((w.alloc (.cells ans0.toArray 41)).setRow w.heap.size cs.toArray) ∧ Whole ((w.alloc (.cells ans0.toArray 41)).setRow w.heap.size cs.toArray) w.heap.size 41 cs ∧
    (w.alloc (.cells ans0.toArray 41)).heap[w.heap.size]? = some (.cells ans0.toArray 41 (0, 0)) :=
  ⟨((Keeps.refl _ _).alloc _).setRow _ _ (.inl (Nat.le_refl _)), Whole.row (cs := ans0) (heap_alloc_new w _), heap_alloc_new w _⟩

set_option maxRecDepth 100000 in
set_option maxHeartbeats 12800000 in
theorem opanswers_ok (c n : Int) (ao no ro : Option Addr) (cap ncap rc : Nat) (ds raw : List UInt8) (ss : List ByteArray) (w : World) (hx : AnsAt w (.slice ao ds.length cap) (.slice no ss.length ncap) ds ss) (hr : Reads w (.slice ro raw.length rc) raw) :
    Calls Try.prog 5 #[ansVal c n (.slice ao ds.length cap) (.slice no ss.length ncap), .slice ro raw.length rc] w fun e w' => e = .returned (.bool true) ∧ Same w w' := by
  obtain ⟨i0, hi0, hz0, hz1, hz2⟩ := info_parts Try.info5
  have hzs := Try.zeroAns
  have HIO := Lib.hid Try.sizeAns
  have HX := Lib.hid hx
  have HR := Lib.hid hr
  obtain ⟨w0, hw0⟩ : ∃ w0, w.alloc (.cells #[.int .i64 c, .int .i64 n, .slice ao ds.length cap, .slice no ss.length ncap] 41) = w0 := ⟨_, rfl⟩
  have HW0 := Lib.hid hw0
  have HK0 : Hid (Same w w0) := Lib.hid (by rw [← hw0]; exact (Keeps.refl _ _).alloc _)
  have HB0 : Hid (Whole w0 w.heap.size 41 (ansCells c n (.slice ao ds.length cap) (.slice no ss.length ncap))) := Lib.hid (by rw [← hw0]; exact heap_alloc_new w _)
  clear hx hr hw0
  go_enter Try.func5, Try.ntmps5
  go_wp2_with fail
  rw [HW0.out]
  ((with_reducible refine (speaks10 _).mono ?_); rintro e w1 ⟨rfl, hk⟩)
  have HB1 := Lib.hid (HB0.out.keep hk (fun e => e))
  have HK1 : Hid (Same w w1) := Lib.hid (HK0.out.trans hk (fun _ _ e => e))
  clear hk HB0 HK0 HW0
  obtain ⟨a0, a1, a2, a3⟩ := cell_of_four (show w1.heap[w.heap.size]? = some (.cells #[.int .i64 c, .int .i64 n, .slice ao ds.length cap, .slice no ss.length ncap] 41 (0, 0)) from HB1.out)
  by_cases q : (1000 : Int) < (ds.length : Int)
  · go_wp2
    go_ret
    exact ⟨rfl, HK1.out⟩
  have hdl : ds.length ≤ 1000 := by omega
  by_cases q2 : (50 : Int) < (ss.length : Int)
  · go_wp2
    go_ret
    exact ⟨rfl, HK1.out⟩
  have hsl : ss.length ≤ 50 := by omega
  by_cases q3 : (1000 : Int) < (raw.length : Int)
  · go_wp2
    go_ret
    exact ⟨rfl, HK1.out⟩
  have hrl : raw.length ≤ 1000 := by omega
  go_wp2_with (first
    | (refine wpList_load_row (by rfl) 41 _ (by rfl) w.heap.size (by rfl) 41 (ansCells c n (.slice ao ds.length cap) (.slice no ss.length ncap)).toArray (0, 0) _ HB1.out Try.underlying41 rfl HIO.out ?_))
  clear a0 a1 a2 a3 q q2 q3
  obtain ⟨⟨_, _, e2, hb2, _⟩, _, _, e2', hs2⟩ := HX.out.same HK1.out
  simp only [Value.slice.injEq, true_and] at e2 e2'
  refine (copyAns_any c n ao no cap ncap ds ss _ hb2 hs2 (by omega) (by omega)).mono ?_
  clear hb2 hs2 e2 e2'
  rintro e w3 ⟨hk, g3, c3, g3', c3', rfl, ho3, ho3'⟩
  have HB3 := Lib.hid (HB1.out.keep hk (fun e => e))
  have HK3 : Hid (Same w w3) := Lib.hid (HK1.out.trans hk (fun _ _ e => e))
  have HI3 : Hid (AnsAt w3 (.slice (some ⟨g3, 0, none⟩) ds.length c3) (.slice (some ⟨g3', 0, none⟩) ss.length c3') ds ss) := Lib.hid ⟨ho3, _, _, rfl, ho3'⟩
  have HOE := Lib.hid (own_empty w3 5)
  have HBE : Hid (Bytes (w3.alloc (.cells #[] 5)) (.slice ro raw.length rc) raw) := Lib.hid (by
    obtain ⟨_, _, _, h, _⟩ := HR.out.same (HK3.out.alloc (.cells #[] 5))
    exact h)
  clear hk ho3 ho3' HB1 HK1
  obtain ⟨x3, hx3⟩ : ∃ x, Value.slice (some ⟨g3, 0, none⟩) ds.length c3 = x := ⟨_, rfl⟩
  obtain ⟨y3, hy3⟩ : ∃ y, Value.slice (some ⟨g3', 0, none⟩) ss.length c3' = y := ⟨_, rfl⟩
  rw [hx3, hy3] at HI3
  rw [hx3, hy3]
  clear hx3 hy3
  have HA3 := Lib.hid (HI3.out.all c n)
  go_wp2_with (at_builtin; refine wpList_append_bytes (by rfl) _ _ 23 5 i0 (by rfl) Try.underlying23 hi0 hz0 hz1 hz2 w3.heap.size w3.heap.size 0 [] raw _ (by rfl) (by rfl) HOE.out HBE.out (by simp; omega) (by simp) ?_)
  intro g4 c4 w4 ho4 hg4 hat4
  try simp only [List.length_nil, Nat.zero_add, List.nil_append] at ho4
  try simp only [List.length_nil, Nat.zero_add]
  have hk34 : Same w3 w4 := ((Keeps.refl (fun _ => False) w3).alloc _).grown hg4 (fun k e hk => by simp only [Option.some.injEq] at e; omega)
  obtain ⟨k45, g5, n5⟩ := storedA w4 (ansCells c n x3 y3)
  obtain ⟨w5, hw5⟩ : ∃ w5, (w4.alloc (.cells ans0.toArray 41)).setRow w4.heap.size (ansCells c n x3 y3).toArray = w5 := ⟨_, rfl⟩
  rw [hw5] at k45 g5
  have HW5 := Lib.hid hw5
  have HN5 := Lib.hid n5
  have k35 : Same w3 w5 := hk34.trans k45 (fun _ _ e => e)
  have HC4 : Hid (Reads w5 (.slice (some ⟨g4, 0, none⟩) raw.length c4) raw) := Lib.hid ((Reads.of_own ho4 rfl).same k45)
  have HB5 := Lib.hid (HB3.out.keep k35 (fun e => e))
  have HK5 : Hid (Same w w5) := Lib.hid (HK3.out.trans k35 (fun _ _ e => e))
  have HI5 := Lib.hid (HI3.out.same k35)
  have HG5 := Lib.hid g5
  clear ho4 hg4 hat4 hk34 k45 g5 n5 hw5 k35 HOE HBE HB3 HK3 HI3
  go_wp2_with (first
    | (refine wpList_store_row (by rfl) 41 _ _ (by rfl) w4.heap.size (ansCells c n x3 y3).toArray (by rfl) (by rfl) 41 ans0.toArray HN5.out HIO.out rfl HA3.out ?_; rw [HW5.out])
    | (refine wpList_load_row (by rfl) 41 _ (by rfl) w4.heap.size (by rfl) 41 (ansCells c n x3 y3).toArray (0, 0) _ HG5.out Try.underlying41 rfl HIO.out ?_))
  generalize hG5 : w4.heap.size = G5 at *
  refine (writeAns_out c n x3 y3 ds ss _ HI5.out).mono ?_
  rintro e w6 ⟨v6, rfl, hr6, hk⟩
  have HB6 := Lib.hid (HB5.out.keep hk (fun e => e))
  have HK6 : Hid (Same w w6) := Lib.hid (HK5.out.trans hk (fun _ _ e => e))
  have HI6 := Lib.hid (HI5.out.same hk)
  have HC6 := Lib.hid (HC4.out.same hk)
  have HG6 := Lib.hid (HG5.out.keep hk (fun e => e))
  have HV6 := Lib.hid hr6
  clear hk hr6 HB5 HK5 HI5 HC4 HG5 HN5 HW5
  go_wp2_with (first
    | (refine wpList_load_row (by rfl) 41 _ (by rfl) w.heap.size (by rfl) 41 (ansCells c n (.slice ao ds.length cap) (.slice no ss.length ncap)).toArray (0, 0) _ HB6.out Try.underlying41 rfl HIO.out ?_))
  refine (refWriteAns_out c n _ _ ds ss _ (HX.out.same HK6.out)).mono ?_
  rintro e w7 ⟨v7, rfl, hr7, hk⟩
  have HB7 := Lib.hid (HB6.out.keep hk (fun e => e))
  have HK7 : Hid (Same w w7) := Lib.hid (HK6.out.trans hk (fun _ _ e => e))
  have HI7 := Lib.hid (HI6.out.same hk)
  have HC7 := Lib.hid (HC6.out.same hk)
  have HG7 := Lib.hid (HG6.out.keep hk (fun e => e))
  have HV7 := Lib.hid (HV6.out.same hk)
  have HU7 := Lib.hid hr7
  clear hk hr7 HB6 HK6 HI6 HC6 HG6 HV6
  go_wp2_with fail
  refine (readAns_at _ raw _ HC7.out (by omega) (fun n c e => by simp at e)).mono ?_
  rintro e w8 ⟨hk, c1, n1, ds1, ss1, x8, y8, er1, rfl, hr8, ho8⟩
  have HB8 := Lib.hid (HB7.out.keep hk (fun e => e))
  have HK8 : Hid (Same w w8) := Lib.hid (HK7.out.trans hk (fun _ _ e => e))
  have HI8 := Lib.hid (HI7.out.same hk)
  have HC8 := Lib.hid (HC7.out.same hk)
  have HG8 := Lib.hid (HG7.out.keep hk (fun e => e))
  have HV8 := Lib.hid (HV7.out.same hk)
  have HU8 := Lib.hid (HU7.out.same hk)
  have HX8 := Lib.hid hr8
  have HA8 := Lib.hid (hr8.all c1 n1)
  have HO8 := Lib.hid ho8
  clear ho8 hr8 hk HB7 HK7 HI7 HC7 HG7 HV7 HU7
  obtain ⟨hk, g9, n9⟩ := storedA w8 (ansCells c1 n1 x8 y8)
  obtain ⟨w9, hw9⟩ : ∃ w9, (w8.alloc (.cells ans0.toArray 41)).setRow w8.heap.size (ansCells c1 n1 x8 y8).toArray = w9 := ⟨_, rfl⟩
  rw [hw9] at hk g9
  have HW9 := Lib.hid hw9
  have HN9 := Lib.hid n9
  have HF9 := Lib.hid g9
  have HX9 := Lib.hid (HX8.out.same hk)
  have HB9 := Lib.hid (HB8.out.keep hk (fun e => e))
  have HK9 : Hid (Same w w9) := Lib.hid (HK8.out.trans hk (fun _ _ e => e))
  have HI9 := Lib.hid (HI8.out.same hk)
  have HC9 := Lib.hid (HC8.out.same hk)
  have HG9 := Lib.hid (HG8.out.keep hk (fun e => e))
  have HV9 := Lib.hid (HV8.out.same hk)
  have HU9 := Lib.hid (HU8.out.same hk)
  clear hk HB8 HK8 HI8 HC8 HG8 HV8 HU8 hw9 n9 g9 HX8
  go_wp2_with (first
    | (refine wpList_store_row (by rfl) 41 _ _ (by rfl) w8.heap.size (ansCells c1 n1 x8 y8).toArray (by rfl) (by rfl) 41 ans0.toArray HN9.out HIO.out rfl HA8.out ?_; rw [HW9.out]))
  generalize hG9 : w8.heap.size = G9 at *
  clear HN9 HW9
  refine (refReadAns_at _ raw _ (HR.out.same HK9.out) (by omega)).mono ?_
  rintro e w10 ⟨hk, c2, n2, ds2, ss2, x10, y10, er2, rfl, hr10, ho10⟩
  obtain ⟨⟨rfl, rfl, rfl, rfl⟩, rfl⟩ := HO8.out.unique ho10
  have HY10 := Lib.hid hr10
  have HA10 := Lib.hid (hr10.all c1 n1)
  have HX10 := Lib.hid (HX9.out.same hk)
  have HF10 := Lib.hid (HF9.out.keep hk (fun e => e))
  have HB10 := Lib.hid (HB9.out.keep hk (fun e => e))
  have HK10 : Hid (Same w w10) := Lib.hid (HK9.out.trans hk (fun _ _ e => e))
  have HI10 := Lib.hid (HI9.out.same hk)
  have HC10 := Lib.hid (HC9.out.same hk)
  have HG10 := Lib.hid (HG9.out.keep hk (fun e => e))
  have HV10 := Lib.hid (HV9.out.same hk)
  have HU10 := Lib.hid (HU9.out.same hk)
  clear hk HB9 HK9 HI9 HC9 HG9 HV9 HU9 hr10 ho10 HX9 HF9
  obtain ⟨hk, g11, n11⟩ := storedA w10 (ansCells c1 n1 x10 y10)
  obtain ⟨w11, hw11⟩ : ∃ w11, (w10.alloc (.cells ans0.toArray 41)).setRow w10.heap.size (ansCells c1 n1 x10 y10).toArray = w11 := ⟨_, rfl⟩
  rw [hw11] at hk g11
  have HW11 := Lib.hid hw11
  have HN11 := Lib.hid n11
  have HH11 := Lib.hid g11
  have HX11 := Lib.hid (HX10.out.same hk)
  have HY11 := Lib.hid (HY10.out.same hk)
  have HF11 := Lib.hid (HF10.out.keep hk (fun e => e))
  have HB11 := Lib.hid (HB10.out.keep hk (fun e => e))
  have HK11 : Hid (Same w w11) := Lib.hid (HK10.out.trans hk (fun _ _ e => e))
  have HI11 := Lib.hid (HI10.out.same hk)
  have HC11 := Lib.hid (HC10.out.same hk)
  have HG11 := Lib.hid (HG10.out.keep hk (fun e => e))
  have HV11 := Lib.hid (HV10.out.same hk)
  have HU11 := Lib.hid (HU10.out.same hk)
  clear hk HB10 HK10 HI10 HC10 HG10 HV10 HU10 hw11 n11 g11 HX10 HY10 HF10
  have c6 := run_reads HV11.out
  have c7 := run_reads HU11.out
  obtain ⟨B, hB⟩ : ∃ B, ansB c n ds ss = B := ⟨_, rfl⟩
  obtain ⟨Er, hEr⟩ : ∃ Er, ansE c n ds ss = Er := ⟨_, rfl⟩
  rw [hB] at c6 c7 HV11 HU11
  rw [hEr]
  have HBB := Lib.hid hB
  have HEr := Lib.hid hEr
  clear hB hEr
  go_wp2_with (first
    | (refine wpList_store_row (by rfl) 41 _ _ (by rfl) w10.heap.size (ansCells c1 n1 x10 y10).toArray (by rfl) (by rfl) 41 ans0.toArray HN11.out HIO.out rfl HA10.out ?_; rw [HW11.out])
    | (refine wpList_load_row_g (by rfl) 41 _ (by rfl) G9 (by rfl) 41 (ansCells c1 n1 x8 y8).toArray (0, 0) _ HF11.out Try.underlying41 rfl HIO.out ?_)
    | (refine wpList_load_row_g (by rfl) 41 _ (by rfl) w10.heap.size (by rfl) 41 (ansCells c1 n1 x10 y10).toArray (0, 0) _ HH11.out Try.underlying41 rfl HIO.out ?_))
  clear c6 c7 HN11 HW11
  refine (sameAns_at c1 n1 c1 n1 x8 y8 x10 y10 ds1 ds1 ss1 ss1 _ HX11.out HY11.out (by have := HO8.out.few; omega)).mono ?_
  rintro e w12 ⟨bq, rfl, hk, hbq⟩
  obtain rfl : bq = true := hbq.2 ⟨rfl, rfl, rfl, rfl⟩
  have HB12 := Lib.hid (HB11.out.keep hk (fun e => e))
  have HK12 : Hid (Same w w12) := Lib.hid (HK11.out.trans hk (fun _ _ e => e))
  have HI12 := Lib.hid (HI11.out.same hk)
  have HC12 := Lib.hid (HC11.out.same hk)
  have HG12 := Lib.hid (HG11.out.keep hk (fun e => e))
  have HV12 := Lib.hid (HV11.out.same hk)
  have HU12 := Lib.hid (HU11.out.same hk)
  clear hk hbq HB11 HK11 HI11 HC11 HG11 HV11 HU11 HX11 HY11 HF11 HH11
  go_wp2_with (first
    | (refine wpList_load_row_g (by rfl) 41 _ (by rfl) G5 (by rfl) 41 (ansCells c n x3 y3).toArray (0, 0) _ HG12.out Try.underlying41 rfl HIO.out ?_)
    | (refine wpList_load_row_g (by rfl) 41 _ (by rfl) w.heap.size (by rfl) 41 (ansCells c n (.slice ao ds.length cap) (.slice no ss.length ncap)).toArray (0, 0) _ HB12.out Try.underlying41 rfl HIO.out ?_))
  refine (sameAns_at c n c n x3 y3 (.slice ao ds.length cap) (.slice no ss.length ncap) ds ds ss ss _ HI12.out (HX.out.same HK12.out) (by omega)).mono ?_
  rintro e w13 ⟨bq, rfl, hk, hbq⟩
  obtain rfl : bq = true := hbq.2 ⟨rfl, rfl, rfl, rfl⟩
  have HB13 := Lib.hid (HB12.out.keep hk (fun e => e))
  have HK13 : Hid (Same w w13) := Lib.hid (HK12.out.trans hk (fun _ _ e => e))
  have HC13 := Lib.hid (HC12.out.same hk)
  have HV13 := Lib.hid (HV12.out.same hk)
  clear hk hbq HB12 HK12 HI12 HC12 HG12 HV12 HU12
  have c13 := run_reads HC13.out
  have r13 := run_reads (HR.out.same HK13.out)
  by_cases hO : AnsRight c n ds.length ss
  case neg =>
    have hEr : Er = 1 := by rw [← HEr.out]; unfold ansE; rw [if_neg hO]
    subst hEr
    go_wp2
    go_ret
    exact ⟨rfl, HK13.out⟩
  have hEr : Er = 0 := by rw [← HEr.out]; unfold ansE; rw [if_pos hO]
  subst hEr
  have hBv : B = ansBytes c n ds ss := by rw [← HBB.out]; unfold ansB; rw [if_pos hO]
  have HOI : Hid (AnsIs B c n ds ss 0) := Lib.hid (.inl ⟨hO, hBv.symm, rfl⟩)
  have HBL : Hid (7 ≤ B.length ∧ B.length ≤ 1000) := Lib.hid (by
    obtain ⟨_, _, h5, h6, h7⟩ := hO
    have h1 := texts_length ss h7
    have h2 := ansHead_length c n ds ss.length
    rw [hBv]; unfold ansBytes; rw [List.length_append]; omega)
  clear hO hBv HEr HBB
  have HVN : Hid (∀ n c, v6 = .slice none n c → c = 0) := Lib.hid (fun n c e => by
    obtain ⟨vo, vc, e2, hbv, _⟩ := HV13.out
    rw [e] at e2 hbv
    rcases hbv with ⟨a, c', h, _⟩ | ⟨c', h, h2⟩
    · simp at h
    · have := HBL.out.1; rw [h2] at this; simp at this)
  go_wp2_with fail
  refine (readAns_at v6 B _ HV13.out (by have := HBL.out.2; omega) HVN.out).mono ?_
  rintro e w14 ⟨hk, c3, n3, ds3, ss3, x14, y14, er3, rfl, hr14, ho14⟩
  obtain ⟨⟨rfl, rfl, rfl, rfl⟩, rfl⟩ := HOI.out.unique ho14
  have HZ14 := Lib.hid hr14
  have HA14 := Lib.hid (hr14.all c n)
  have HB14 := Lib.hid (HB13.out.keep hk (fun e => e))
  have HK14 : Hid (Same w w14) := Lib.hid (HK13.out.trans hk (fun _ _ e => e))
  clear hk hr14 ho14 HVN c13 r13 HB13 HK13 HC13 HV13
  obtain ⟨hk, g15, n15⟩ := storedA w14 (ansCells c n x14 y14)
  obtain ⟨w15, hw15⟩ : ∃ w15, (w14.alloc (.cells ans0.toArray 41)).setRow w14.heap.size (ansCells c n x14 y14).toArray = w15 := ⟨_, rfl⟩
  rw [hw15] at hk g15
  have HW15 := Lib.hid hw15
  have HN15 := Lib.hid n15
  have HH15 := Lib.hid g15
  have HZ15 := Lib.hid (HZ14.out.same hk)
  have HB15 := Lib.hid (HB14.out.keep hk (fun e => e))
  have HK15 : Hid (Same w w15) := Lib.hid (HK14.out.trans hk (fun _ _ e => e))
  clear hk g15 n15 hw15 HZ14 HB14 HK14
  go_wp2_with (first
    | (refine wpList_store_row (by rfl) 41 _ _ (by rfl) w14.heap.size (ansCells c n x14 y14).toArray (by rfl) (by rfl) 41 ans0.toArray HN15.out HIO.out rfl HA14.out ?_; rw [HW15.out])
    | (refine wpList_load_row_g (by rfl) 41 _ (by rfl) w14.heap.size (by rfl) 41 (ansCells c n x14 y14).toArray (0, 0) _ HH15.out Try.underlying41 rfl HIO.out ?_)
    | (refine wpList_load_row_g (by rfl) 41 _ (by rfl) w.heap.size (by rfl) 41 (ansCells c n (.slice ao ds.length cap) (.slice no ss.length ncap)).toArray (0, 0) _ HB15.out Try.underlying41 rfl HIO.out ?_))
  refine (sameAns_at c n c n x14 y14 (.slice ao ds.length cap) (.slice no ss.length ncap) ds ds ss ss _ HZ15.out (HX.out.same HK15.out) (by omega)).mono ?_
  rintro e w16 ⟨bq, rfl, hk, hbq⟩
  obtain rfl : bq = true := hbq.2 ⟨rfl, rfl, rfl, rfl⟩
  have HK16 : Hid (Same w w16) := Lib.hid (HK15.out.trans hk (fun _ _ e => e))
  clear hk hbq
  go_wp2
  go_ret
  exact ⟨rfl, HK16.out⟩
end Go.Proofs.Ytickphkeeflbbaa
