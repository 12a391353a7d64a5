/- What stands where wire.Read reads. -/
import Derived.Test.YtafgiljgefeefaaDoorWm11
import Derived.Test.YtafgiljgefeefaaDoorRd
import Derived.Test.YtafgiljgefeefaaDoorOpR2
import Derived.Test.YtafgiljgefeefaaDoorAnsR1
import Derived.Test.YtafgiljgefeefaaDoorRw
import Derived.Laws.CopyRow
import Derived.Laws.ResultCell
namespace Go.Proofs.YtafgiljgefeefaaDoor
open Go.RowKit
set_option linter.unusedVariables false

def hashAt (bs : List UInt8) (i : Nat) : List UInt8 := if i + 32 ≤ bs.length then (bs.drop i).take 32 else List.replicate 32 0
theorem hashAt_len (bs : List UInt8) (i : Nat) : (hashAt bs i).length = 32 := by
  unfold hashAt; split
  · simp; omega
  · simp
theorem hash_of {bs : List UInt8} {i : Nat} {h r : List UInt8} (e : bs.drop i = h ++ r) (hh : h.length = 32) : hashAt bs i = h ∧ bs.drop (numTo bs i 32) = r := by
  have hl : i + 32 ≤ bs.length := by
    have := congrArg List.length e
    simp [hh] at this
    omega
  refine ⟨?_, ?_⟩
  · unfold hashAt; rw [if_pos hl, e, List.take_left' hh]
  · unfold numTo; rw [if_pos hl, ← List.drop_drop, e, List.drop_left' hh]
def hsAt (bs : List UInt8) : Nat → Nat → List (List UInt8)
  | _, 0 => []
  | i, k + 1 => hashAt bs i :: hsAt bs (numTo bs i 32) k
def hsTo (bs : List UInt8) : Nat → Nat → Nat
  | i, 0 => i
  | i, k + 1 => hsTo bs (numTo bs i 32) k
theorem hsAt_length (bs : List UInt8) : ∀ i k, (hsAt bs i k).length = k
  | _, 0 => rfl
  | i, k + 1 => by simp [hsAt, hsAt_length bs (numTo bs i 32) k]
theorem hsAt_all (bs : List UInt8) : ∀ i k, ∀ h ∈ hsAt bs i k, h.length = 32
  | _, 0 => by simp [hsAt]
  | i, k + 1 => by
    intro h hh
    simp only [hsAt, List.mem_cons] at hh
    rcases hh with rfl | hh
    · exact hashAt_len _ _
    · exact hsAt_all bs _ k h hh
theorem hsTo_succ (bs : List UInt8) : ∀ i k, hsTo bs i (k + 1) = numTo bs (hsTo bs i k) 32
  | _, 0 => rfl
  | i, k + 1 => by
    show hsTo bs (numTo bs i 32) (k + 1) = _
    rw [hsTo_succ bs (numTo bs i 32) k]
    rfl
theorem hsAt_succ (bs : List UInt8) : ∀ i k, hsAt bs i (k + 1) = hsAt bs i k ++ [hashAt bs (hsTo bs i k)]
  | _, 0 => rfl
  | i, k + 1 => by
    show hashAt bs i :: hsAt bs (numTo bs i 32) (k + 1) = _
    rw [hsAt_succ bs (numTo bs i 32) k]
    rfl
theorem hs_of {bs : List UInt8} : ∀ {l : List (List UInt8)} {i : Nat} {r : List UInt8}, bs.drop i = l.flatten ++ r → (∀ h ∈ l, h.length = 32) → hsAt bs i l.length = l ∧ bs.drop (hsTo bs i l.length) = r
  | [], i, r, h, _ => ⟨rfl, by simpa [hsTo] using h⟩
  | x :: l, i, r, h, hl => by
    have h1 : bs.drop i = x ++ (l.flatten ++ r) := by rw [h]; simp
    obtain ⟨c, d⟩ := hash_of h1 (hl x (by simp))
    obtain ⟨q1, q2⟩ := hs_of d (fun y hy => hl y (by simp [hy]))
    refine ⟨?_, q2⟩
    show hashAt bs i :: hsAt bs (numTo bs i 32) l.length = x :: l
    rw [q1, c]
def blAt (bs : List UInt8) : Nat → Nat → List (List UInt8)
  | _, 0 => []
  | i, k + 1 => txtAt bs i :: blAt bs (txtTo bs i) k
theorem blAt_length (bs : List UInt8) : ∀ i k, (blAt bs i k).length = k
  | _, 0 => rfl
  | i, k + 1 => by simp [blAt, blAt_length bs (txtTo bs i) k]
theorem blAt_succ (bs : List UInt8) : ∀ i k, blAt bs i (k + 1) = blAt bs i k ++ [txtAt bs (namesTo bs i k)]
  | _, 0 => rfl
  | i, k + 1 => by
    show txtAt bs i :: blAt bs (txtTo bs i) (k + 1) = _
    rw [blAt_succ bs (txtTo bs i) k]
    rfl
theorem bl_of {bs : List UInt8} : ∀ {l : List (List UInt8)} {i : Nat} {r : List UInt8}, bs.drop i = txts l ++ r → (∀ b ∈ l, b.length ≤ 65535) → blAt bs i l.length = l
  | [], i, r, h, _ => rfl
  | x :: l, i, r, h, hl => by
    have h1 : bs.drop i = be x.length 2 ++ (x ++ (txts l ++ r)) := by rw [h]; simp [txts, txt, List.append_assoc]
    obtain ⟨c, d, e, f⟩ := txt_of h1 (hl x (by simp))
    rw [← d] at e
    show txtAt bs i :: blAt bs (txtTo bs i) l.length = x :: l
    rw [bl_of e (fun y hy => hl y (by simp [hy])), c]

/-- A message as one may be: right, with digests of their length. -/
structure Msg.Good (m : Msg) : Prop where
  right : m.Right
  hd : m.hd.length = 32
  num : m.NumOk
  hs : ∀ h ∈ m.hs, h.length = 32

/-- A message's bytes are read as its parts. -/
theorem rd_of_msg {bs : List UInt8} {m : Msg} (g : m.Good) (hb : m.bytes = bs) (i1 i2 i3 i4 i5 i6 i7 i8 i9 i10 i11 i12 i13 i14 i15 i16 : Nat)
    (h1 : numTo bs 0 1 = i1) (h2 : numTo bs i1 1 = i2) (h3 : numTo bs i2 1 = i3) (h4 : numTo bs i3 1 = i4) (h5 : numTo bs i4 8 = i5) (h6 : numTo bs i5 8 = i6) (h7 : numTo bs i6 8 = i7) (h8 : numTo bs i7 8 = i8)
    (h9 : numTo bs i8 32 = i9) (h10 : numTo bs i9 1 = i10) (h11 : numTo bs i10 8 = i11) (h12 : txtTo bs i11 = i12) (h13 : txtTo bs i12 = i13) (h14 : numTo bs i13 1 = i14) (h15 : hsTo bs i14 (numAt bs i13 1) = i15) (h16 : numTo bs i15 1 = i16) :
    (numAt bs i1 1 : Int) = m.k ∧ (numAt bs i2 1 : Int) = m.f ∧ (numAt bs i3 1 : Int) = m.t ∧ numAt bs i4 8 = m.v ∧ numAt bs i5 8 = m.n ∧ numAt bs i6 8 = m.g ∧ numAt bs i7 8 = m.c ∧ hashAt bs i8 = m.hd ∧ (numAt bs i9 1 : Int) = m.cl ∧ numAt bs i10 8 = m.nr ∧
      txtAt bs i11 = m.opB ∧ txtAt bs i12 = m.ansB ∧ hsAt bs i14 (numAt bs i13 1) = m.hs ∧ blAt bs i16 (numAt bs i15 1) = m.bs.map (·.2) := by
  obtain ⟨hR, hd, hn, hh⟩ := g
  have e8 : (256 : Nat) ^ 8 = 18446744073709551616 := by decide
  have e1 : (256 : Nat) ^ 1 = 256 := by decide
  have k1 := hR.kind
  have f1 := hR.frm
  have t1 := hR.to
  have c1 := hR.clr
  obtain ⟨n1, n2, n3, n4, n5⟩ := hn
  have b0 : bs.drop 0 = be 3 1 ++ (be m.k.toNat 1 ++ (be m.f.toNat 1 ++ (be m.t.toNat 1 ++ (be m.v 8 ++ (be m.n 8 ++ (be m.g 8 ++ (be m.c 8 ++ (m.hd ++ (be m.cl.toNat 1 ++ (be m.nr 8 ++ (be m.opB.length 2 ++ (m.opB ++ (be m.ansB.length 2 ++ (m.ansB ++ (be m.hs.length 1 ++ (m.hs.flatten ++ (be m.bs.length 1 ++ (txts (m.bs.map (·.2)) ++ (shaOf m.bodyB).take 8)))))))))))))))))) := by
    rw [List.drop_zero, ← hb]
    unfold Msg.bytes Msg.bodyB Msg.frontB Msg.headB Msg.four Msg.eight txt
    rw [flat4, flat4]
    simp only [List.append_assoc]
  obtain ⟨_, d, e, _⟩ := num_of b0 (by omega) (by omega)
  rw [h1] at d; subst d
  obtain ⟨q1, d, e, _⟩ := num_of e (by omega) (by omega)
  rw [h2] at d; subst d
  obtain ⟨q2, d, e, _⟩ := num_of e (by omega) (by omega)
  rw [h3] at d; subst d
  obtain ⟨q3, d, e, _⟩ := num_of e (by omega) (by omega)
  rw [h4] at d; subst d
  obtain ⟨q4, d, e, _⟩ := num_of e (by omega) (by rw [e8]; exact n1)
  rw [h5] at d; subst d
  obtain ⟨q5, d, e, _⟩ := num_of e (by omega) (by rw [e8]; exact n2)
  rw [h6] at d; subst d
  obtain ⟨q6, d, e, _⟩ := num_of e (by omega) (by rw [e8]; exact n3)
  rw [h7] at d; subst d
  obtain ⟨q7, d, e, _⟩ := num_of e (by omega) (by rw [e8]; exact n4)
  rw [h8] at d; subst d
  obtain ⟨q8, e⟩ := hash_of e hd
  rw [h9] at e
  obtain ⟨q9, d, e, _⟩ := num_of e (by omega) (by omega)
  rw [h10] at d; subst d
  obtain ⟨q10, d, e, _⟩ := num_of e (by omega) (by rw [e8]; exact n5)
  rw [h11] at d; subst d
  obtain ⟨q11, d, e, _⟩ := txt_of e (by have := hR.op_len; omega)
  rw [h12] at d; subst d
  obtain ⟨q12, d, e, _⟩ := txt_of e (by have := hR.ans_len; omega)
  rw [h13] at d; subst d
  obtain ⟨q13, d, e, _⟩ := num_of e (by omega) (by have := hR.hs; omega)
  rw [h14] at d; subst d
  rw [q13] at h15 ⊢
  obtain ⟨q14, e⟩ := hs_of e hh
  rw [h15] at e
  obtain ⟨q15, d, e, _⟩ := num_of e (by omega) (by have := hR.bs; omega)
  rw [h16] at d; subst d
  rw [q15]
  have q16 := bl_of e (fun b hb => by
    obtain ⟨r, h1, rfl⟩ := List.mem_map.1 hb
    have := hR.each r h1; omega)
  rw [List.length_map] at q16
  exact ⟨by rw [q1]; omega, by rw [q2]; omega, by rw [q3]; omega, q4, q5, q6, q7, q8, by rw [q9]; omega, q10, q11, q12, q14, q16⟩

/-- What became of a text as an operation: of nothing, nothing. -/
def OpGot (tx : List UInt8) (k off n : Int) (p t : ByteArray) (ds : List UInt8) : Prop := (tx = [] ∧ k = 0 ∧ off = 0 ∧ n = 0 ∧ p = ⟨#[]⟩ ∧ t = ⟨#[]⟩ ∧ ds = []) ∨ (tx ≠ [] ∧ ∃ er, OpIs tx k off n p t ds er)
def AnsGot (tx : List UInt8) (c n : Int) (ds : List UInt8) (ss : List ByteArray) : Prop := (tx = [] ∧ c = 0 ∧ n = 0 ∧ ds = [] ∧ ss = []) ∨ (tx ≠ [] ∧ ∃ er, AnsIs tx c n ds ss er)
theorem Msg.Right.opBlank {m : Msg} (h : m.Right) (k1 : ¬ m.k = 1) : m.ok = 0 ∧ m.p = ⟨#[]⟩ ∧ m.q = ⟨#[]⟩ ∧ m.off = 0 ∧ m.on = 0 ∧ m.od = [] := by
  have h1 : OpBlank m.ok m.off m.on m.p m.q m.od.length := by
    have := h.call
    unfold Msg.CallOk at this
    rw [if_neg k1] at this
    split at this
    · exact this.2.2
    · exact this.2.2
  obtain ⟨a1, a2, a3, a4, a5, a6⟩ := h1
  exact ⟨a1, a2, a3, a4, a5, List.length_eq_zero_iff.1 a6⟩
theorem Msg.Right.ansBlank {m : Msg} (h : m.Right) (k1 : ¬ m.k = 2) : m.ac = 0 ∧ m.an = 0 ∧ m.ad = [] ∧ m.ns = [] := by
  have h1 := h.ans
  unfold Msg.AnsOk at h1
  rw [if_neg k1] at h1
  obtain ⟨a1, a2, a3, a4⟩ := h1
  exact ⟨a1, a2, List.length_eq_zero_iff.1 a3, List.length_eq_zero_iff.1 a4⟩
theorem op_got {m : Msg} (h : m.Right) {k off n : Int} {p t : ByteArray} {ds : List UInt8} (g : OpGot m.opB k off n p t ds) : k = m.ok ∧ p = m.p ∧ t = m.q ∧ off = m.off ∧ n = m.on ∧ ds = m.od := by
  by_cases k1 : m.k = 1
  · have hb : m.opB = opBytes m.ok m.off m.on m.p m.q m.od := by unfold Msg.opB; rw [if_pos k1]
    have hr := h.opOk k1
    rcases g with ⟨e, _⟩ | ⟨_, er, ⟨g1, g2, _⟩ | ⟨g1, _⟩⟩
    · have := congrArg List.length e
      rw [hb, opBytes_length] at this
      simp at this
    · rw [hb] at g2
      exact (opBytes_inj g1 hr).1 g2
    · exact absurd hb.symm (g1 _ _ _ _ _ _ hr)
  · have hb : m.opB = [] := by unfold Msg.opB; rw [if_neg k1]
    obtain ⟨a1, a2, a3, a4, a5, a6⟩ := h.opBlank k1
    rcases g with ⟨_, e1, e2, e3, e4, e5, e6⟩ | ⟨e, _⟩
    · exact ⟨by rw [e1, a1], by rw [e4, a2], by rw [e5, a3], by rw [e2, a4], by rw [e3, a5], by rw [e6, a6]⟩
    · exact absurd hb e
theorem ans_got {m : Msg} (h : m.Right) {c n : Int} {ds : List UInt8} {ss : List ByteArray} (g : AnsGot m.ansB c n ds ss) : c = m.ac ∧ n = m.an ∧ ds = m.ad ∧ ss = m.ns := by
  by_cases k1 : m.k = 2
  · have hb : m.ansB = ansBytes m.ac m.an m.ad m.ns := by unfold Msg.ansB; rw [if_pos k1]
    have hr := h.ansR k1
    rcases g with ⟨e, _⟩ | ⟨_, er, ⟨g1, g2, _⟩ | ⟨g1, _⟩⟩
    · have := congrArg List.length e
      rw [hb, ansBytes, List.length_append, ansHead_length] at this
      simp at this
    · rw [hb] at g2
      exact (ansBytes_inj g1 hr).1 g2
    · exact absurd hb.symm (g1 _ _ _ _ hr)
  · have hb : m.ansB = [] := by unfold Msg.ansB; rw [if_neg k1]
    obtain ⟨a1, a2, a3, a4⟩ := h.ansBlank k1
    rcases g with ⟨_, e1, e2, e3, e4⟩ | ⟨e, _⟩
    · exact ⟨by rw [e1, a1], by rw [e2, a2], by rw [e3, a3], by rw [e4, a4]⟩
    · exact absurd hb e
theorem Msg.Eqv.symm {a b : Msg} (h : a.Eqv b) : b.Eqv a := by
  obtain ⟨o1, o2, o3, o4, o5, o6⟩ := h.op
  obtain ⟨s1, s2, s3, s4⟩ := h.ans
  exact ⟨h.k.symm, h.f.symm, h.t.symm, h.v.symm, h.n.symm, h.g.symm, h.c.symm, h.hd.symm, h.cl.symm, h.nr.symm, ⟨o1.symm, o2.symm, o3.symm, o4.symm, o5.symm, o6.symm⟩, ⟨s1.symm, s2.symm, s3.symm, s4.symm⟩, h.hs.symm, h.bs.symm⟩
theorem Msg.Eqv.trans {a b c : Msg} (h : a.Eqv b) (k : b.Eqv c) : a.Eqv c := by
  obtain ⟨o1, o2, o3, o4, o5, o6⟩ := h.op
  obtain ⟨s1, s2, s3, s4⟩ := h.ans
  obtain ⟨p1, p2, p3, p4, p5, p6⟩ := k.op
  obtain ⟨r1, r2, r3, r4⟩ := k.ans
  exact ⟨h.k.trans k.k, h.f.trans k.f, h.t.trans k.t, h.v.trans k.v, h.n.trans k.n, h.g.trans k.g, h.c.trans k.c, h.hd.trans k.hd, h.cl.trans k.cl, h.nr.trans k.nr, ⟨o1.trans p1, o2.trans p2, o3.trans p3, o4.trans p4, o5.trans p5, o6.trans p6⟩, ⟨s1.trans r1, s2.trans r2, s3.trans r3, s4.trans r4⟩, h.hs.trans k.hs, h.bs.trans k.bs⟩
theorem Msg.Eqv.right {a b : Msg} (h : a.Eqv b) (hb : b.Right) : a.Right := by
  obtain ⟨o1, o2, o3, o4, o5, o6⟩ := h.op
  obtain ⟨s1, s2, s3, s4⟩ := h.ans
  obtain ⟨b1, b2, b3, b4, b5, b6, b7, b8⟩ := hb
  have hl : a.bs.length = b.bs.length := by have := congrArg List.length h.bs; simpa using this
  refine ⟨by rw [h.k]; exact b1, by rw [h.f]; exact b2, by rw [h.t]; exact b3, ?_, ?_, by rw [h.hs]; exact b6, by rw [hl]; exact b7, ?_⟩
  · unfold Msg.CallOk at *; rw [h.k, h.cl, h.nr, o1, o2, o3, o4, o5, o6]; exact b4
  · unfold Msg.AnsOk at *; rw [h.k, s1, s2, s3, s4]; exact b5
  · intro x hx
    have h1 : x.2 ∈ b.bs.map (·.2) := by rw [← h.bs]; exact List.mem_map_of_mem hx
    obtain ⟨y, h2, h3⟩ := List.mem_map.1 h1
    rw [← h3]; exact b8 y h2
end Go.Proofs.YtafgiljgefeefaaDoor
namespace Go.Proofs.YtafgiljgefeefaaDoor
open Go.RowKit
set_option linter.unusedVariables false

set_option maxRecDepth 100000 in
set_option maxHeartbeats 1600000 in
theorem wnum_w {w0 : World} {v : Value} (B : Nat) (bs : List UInt8) (i n : Nat) (N : Int) (w : World) (h : EyeW w0 w B v bs i) (hl : bs.length ≤ 140737488351232) (hn1 : 1 ≤ n) (hn8 : n ≤ 8) (hN : N = (n : Int)) :
    Calls Tryd.prog 42 #[.agg #[.pointer (some ⟨B, 0, none⟩)], .int .i64 N] w fun e w' => e = .returned (.int .u64 (numAt bs i n : Nat)) ∧ EyeW w0 w' B v bs (numTo bs i n) ∧ Keeps (fun k => k = B) w w' := by
  subst hN
  have H := Lib.hid (h.same' ((Keeps.refl _ _).alloc (.cells #[.pointer (some ⟨B, 0, none⟩)] 91)))
  clear h
  go_enter Tryd.func42, Tryd.ntmps42
  go_wp2_with fail
  ((with_reducible refine (eyeuint_w B bs i n _ _ H.out hl hn1 hn8 rfl).mono ?_); rintro e w1 ⟨x, er, j, rfl, hy, hx, ha, hb, hk⟩)
  have hxj : x = numAt bs i n ∧ j = numTo bs i n := by
    unfold numAt numTo
    by_cases q : i + n ≤ bs.length
    · rw [if_pos q, if_pos q]; exact ⟨(ha q).1, (ha q).2.2⟩
    · rw [if_neg q, if_neg q]; exact ⟨(hb (by omega)).1, (hb (by omega)).2.2⟩
  obtain ⟨rfl, rfl⟩ := hxj
  generalize hX : numAt bs i n = X at *
  have HY := Lib.hid hy
  have HK := Lib.hid hk
  have HX := Lib.hid hX
  clear hy hx ha hb hk hX
  go_wp2
  go_ret
  exact ⟨by rw [HX.out]; rfl, HY.out, ((Keeps.refl _ _).alloc _).trans HK.out (fun _ _ e => e)⟩

set_option maxRecDepth 100000 in
set_option maxHeartbeats 1600000 in
theorem whash_w {w0 : World} {v : Value} (B : Nat) (bs : List UInt8) (i : Nat) (w : World) (h : EyeW w0 w B v bs i) (hl : bs.length ≤ 140737488351232) :
    Calls Tryd.prog 43 #[.agg #[.pointer (some ⟨B, 0, none⟩)]] w fun e w' => e = .returned (.agg (u8s (hashAt bs i)).toArray) ∧ EyeW w0 w' B v bs (numTo bs i 32) ∧ Keeps (fun k => k = B) w w' := by
  have hz32 := Tryd.zero32
  have hBl := h.lt
  obtain ⟨w1, hw1⟩ : ∃ w1, w.alloc (.cells #[.pointer (some ⟨B, 0, none⟩)] 91) = w1 := ⟨_, rfl⟩
  have hz1 : w1.heap.size = w.heap.size + 1 := by rw [← hw1]; simp
  have hr1 : w1.cell? ⟨w.heap.size, 0, none⟩ = some (.pointer (some ⟨B, 0, none⟩)) := (show Whole w1 w.heap.size 91 [.pointer (some ⟨B, 0, none⟩)] from by rw [← hw1]; exact heap_alloc_new w _).cell (i := 0) rfl
  have hk1 : Same w w1 := by rw [← hw1]; exact (Keeps.refl _ _).alloc _
  obtain ⟨w2, hw2⟩ : ∃ w2, w1.alloc (.cells z32.toArray 32) = w2 := ⟨_, rfl⟩
  have hk2 : Same w1 w2 := by rw [← hw2]; exact (Keeps.refl _ _).alloc _
  have hH2 : Whole w2 w1.heap.size 32 z32 := by rw [← hw2]; exact heap_alloc_new w1 _
  have c8 : w2.cell? ⟨w.heap.size, 0, none⟩ = some (.pointer (some ⟨B, 0, none⟩)) := by
    rw [World.cell?_of_block (w := w1) (hk2.block _ (by show w.heap.size < w1.heap.size; omega) (fun e => e))]; exact hr1
  obtain ⟨H, hH⟩ : ∃ H, w1.heap.size = H := ⟨_, rfl⟩
  have hBH : B < H := by omega
  rw [hH] at hH2
  have HH2 := Lib.hid hH2
  have H2 := Lib.hid (h.same' (hk1.trans hk2 (fun _ _ e => e)))
  have HK2 : Hid (Same w w2) := Lib.hid (hk1.trans hk2 (fun _ _ e => e))
  have HHW : Hid (w.heap.size ≤ H) := Lib.hid (by omega)
  have HRL : Hid (∀ j, v.ownBlock = some j → j < w.heap.size) := Lib.hid (fun j e => (h.row_lt j e).2)
  have HNW : Hid (w0.heap.size ≤ w.heap.size) := Lib.hid h.same.size
  have HBL := Lib.hid hBl
  clear h hH2 hk1 hk2 hr1 hz1
  go_enter Tryd.func43, Tryd.ntmps43
  go_wp2_with fail
  clear c8 hw1 hw2
  ((with_reducible refine (eyeraw_w B bs i 32 _ _ H2.out hl (by omega) (by omega)).mono ?_); rintro e w3 ⟨r, er, j, b, rfl, hy, ho, ha, hb, hk⟩)
  have hj : j = numTo bs i 32 := by
    unfold numTo
    by_cases q : i + 32 ≤ bs.length
    · rw [if_pos q]; exact (ha q).2.2
    · rw [if_neg q]; exact (hb (by omega)).2.2
  subst hj
  have hbl : (b = [] ∧ hashAt bs i = List.replicate 32 0) ∨ (b.length = 32 ∧ hashAt bs i = b) := by
    unfold hashAt
    by_cases q : i + 32 ≤ bs.length
    · rw [if_pos q]
      have := (ha q).1
      exact .inr ⟨by rw [this]; simp; omega, this.symm⟩
    · rw [if_neg q]; exact .inl ⟨(hb (by omega)).1, rfl⟩
  have HL := Lib.hid (hashAt_len bs i)
  generalize hhx : hashAt bs i = hx at hbl HL
  have HHX := Lib.hid hhx
  clear hhx
  have HH3 : Whole w3 H 32 z32 := HH2.out.keep hk (by omega)
  have hform : ∃ ao n c, r = .slice ao n c := by
    rcases ho.2 with ⟨e, _⟩ | ⟨g, cap, cur, e, _⟩ <;> exact ⟨_, _, _, e⟩
  obtain ⟨ao, rn, rc, rfl⟩ := hform
  have HRUN : Hid (∃ rr w4, (Builtin.copy_ #[33, 33] 3 #[.slice (some ⟨H, 0, none⟩) 32 32, .slice ao rn rc]).run Tryd.prog w3 = .ok rr w4 ∧ Keeps (fun k => k = H) w3 w4 ∧ Whole w4 H 32 (u8s hx)) := Lib.hid (by
    have hU : (Tryd.prog.info? 5).map (·.size) = some 1 := by kernel_rfl
    rcases ho.2 with ⟨e, h0⟩ | ⟨g, cap, cur, e, hg1, hg2⟩
    · rcases hbl with ⟨rfl, hz⟩ | ⟨h1, _⟩
      · rw [e]
        refine ⟨_, w3, run_copy_nil Tryd.prog w3 _ _ _ 5 _ _ _ Tryd.underlying33 (by rw [hU]; rfl), Keeps.refl _ _, ?_⟩
        rw [hz]; exact HH3
      · omega
    · simp only [Value.slice.injEq] at e
      obtain ⟨rfl, rfl, rfl⟩ := e
      have hsrc : ∀ j v, (u8s b)[j]? = some v → w3.cell? ((⟨g, 0, none⟩ : Addr).add j) = some v := fun j v hv => ho.cells rfl j v hv
      have hr := run_copy_row Tryd.prog w3 33 33 3 5 H 0 32 32 ⟨g, 0, none⟩ b.length rc z32.toArray 32 (u8s b) Tryd.underlying33 hU HH3 (by
          rw [u8s_length]; rcases hbl with ⟨rfl, _⟩ | ⟨h1, _⟩
          · rfl
          · rw [h1]; rfl) hsrc (by
          rw [u8s_length]; rcases hbl with ⟨rfl, _⟩ | ⟨h1, _⟩
          · simp
          · rw [h1]; simp [z32, u8s_length]) (u8s_cell b)
      refine ⟨_, _, hr, (Keeps.refl _ _).setRow _ _ (.inr rfl), ?_⟩
      rcases hbl with ⟨rfl, hz⟩ | ⟨h1, hz⟩
      · rw [hz]; simpa [z32, u8s] using (Whole.row (ds := z32) HH3)
      · have h2 := Whole.row (ds := u8s hx) HH3
        have e1 : (List.take 0 z32.toArray.toList ++ u8s b ++ List.drop (0 + (u8s b).length) z32.toArray.toList) = u8s hx := by
          rw [hz, u8s_length, h1]; simp [z32, u8s]
        rw [e1]; exact h2)
  obtain ⟨rr, w4, hrun, hk4, hh4⟩ := HRUN.out
  have HR4 := Lib.hid hrun
  have HH4 := Lib.hid hh4
  have HKK : Hid (Keeps (fun k => k = B) w w4) := Lib.hid ((HK2.out.any.trans hk (fun _ _ e => e)).trans hk4 (fun q hq e => by have := HHW.out; omega))
  have HY4 : Hid (EyeW w0 w4 B v bs (numTo bs i 32)) := Lib.hid (hy.keep' hk4 (by omega) (fun q e e2 => by have := HRL.out q e; have := HHW.out; omega) (fun q e => by have := HHW.out; have := HNW.out; have := HBL.out; omega))
  have HSZ := Lib.hid (Tryd.sizeHash hx HL.out)
  clear hy ho ha hb hk hrun hk4 hh4 HH3 hbl HRUN HK2 H2 HH2
  obtain ⟨w5, hw5⟩ : ∃ w5, w4.setRow H (u8s hx).toArray = w5 := ⟨_, rfl⟩
  have HFIN : Hid (w5.heap[H]? = some (.cells (u8s hx).toArray 32 (0, 0))) := Lib.hid (by rw [← hw5]; exact HH4.out.row)
  have HEND : Hid (EyeW w0 w5 B v bs (numTo bs i 32) ∧ Keeps (fun k => k = B) w w5) := Lib.hid (by
    have hk5 : Keeps (fun q => q = H) w4 w5 := by rw [← hw5]; exact (Keeps.refl _ _).setRow _ _ (.inr rfl)
    exact ⟨HY4.out.keep' hk5 (by omega) (fun q e e2 => by have := HRL.out q e; have := HHW.out; omega) (fun q e => by have := HHW.out; have := HNW.out; have := HBL.out; omega), HKK.out.trans hk5 (fun q hq e => by have := HHW.out; omega)⟩)
  go_wp2_with (first
    | ((with_reducible refine wpList_copy_eq ?_ (.tmp 11) (.tmp 12) 33 33 ?_ _ _ rr w4 ?_ ?_ HR4.out ?_); rfl; rfl; rfl; rfl)
    | (refine wpList_load_row (by rfl) 32 _ (by rfl) H (by rfl) 32 (u8s hx).toArray (0, 0) _ HH4.out Tryd.underlying32 rfl HSZ.out ?_)
    | (refine wpList_store_row (by rfl) 32 _ _ (by rfl) H (u8s hx).toArray (by rfl) (by rfl) 32 (u8s hx).toArray HH4.out HSZ.out rfl (u8s_all _) ?_))
  subst hw5
  refine bodyPost_ret (v := .agg (u8s hx).toArray) (results_cell_row (p := 2) (ty := 32) rfl _ _ H 32 _ (0, 0) _ (by rfl) HFIN.out Tryd.underlying32 rfl HSZ.out) rfl ⟨by rw [HHX.out], HEND.out⟩
end Go.Proofs.YtafgiljgefeefaaDoor
namespace Go.Proofs.YtafgiljgefeefaaDoor
open Go.RowKit
set_option linter.unusedVariables false

def zeroM : Msg := ⟨0, 0, 0, 0, 0, 0, 0, List.replicate 32 0, 0, 0, 0, ⟨#[]⟩, ⟨#[]⟩, 0, 0, none, 0, [], 0, 0, none, 0, [], none, 0, [], none, 0, [], none, 0, []⟩
theorem zero_in (w : World) : MsgIn w zeroM := ⟨rfl, Bytes.nil _ _ _, Bytes.nil _ _ _, Strs.nil _ _ _, ⟨fun h e => by simp [zeroM] at e, .inl rfl⟩, .inr ⟨0, rfl, rfl⟩, Reads.nil _ _ _, Reads.nil _ _ _, fun r e => by simp [zeroM] at e, by simp [zeroM], by simp [zeroM]⟩
theorem Tryd.zeroMsgW (w : World) : (zeroValue 45).run Tryd.prog w = .ok (.agg zeroM.cells.toArray) w := by kernel_rfl

/-- A message's texts and rows lie in blocks from lo on, ahead of hi. -/
structure MsgBtw (lo hi : Nat) (m : Msg) : Prop where
  od : ∀ a, m.oo = some a → m.od ≠ [] → lo ≤ a.block ∧ a.block < hi
  ad : ∀ a, m.ao = some a → m.ad ≠ [] → lo ≤ a.block ∧ a.block < hi
  ns : ∀ a, m.no = some a → m.ns ≠ [] → lo ≤ a.block ∧ a.block < hi
  hs : ∀ a, m.ho = some a → m.hs ≠ [] → lo ≤ a.block ∧ a.block < hi
  bs : ∀ a, m.bo = some a → m.bs ≠ [] → lo ≤ a.block ∧ a.block < hi
  rb : ∀ r ∈ m.bs, ∀ a n c, r.1 = .slice (some a) n c → r.2 ≠ [] → lo ≤ a.block ∧ a.block < hi
theorem zero_btw (lo hi : Nat) : MsgBtw lo hi zeroM := ⟨fun a e => by simp [zeroM] at e, fun a e => by simp [zeroM] at e, fun a e => by simp [zeroM] at e, fun a e => by simp [zeroM] at e, fun a e => by simp [zeroM] at e, fun r e => by simp [zeroM] at e⟩
theorem MsgBtw.mono {lo hi lo' hi' : Nat} {m : Msg} (h : MsgBtw lo hi m) (h1 : lo' ≤ lo) (h2 : hi ≤ hi') : MsgBtw lo' hi' m :=
  ⟨fun a e n => by have := h.od a e n; omega, fun a e n => by have := h.ad a e n; omega, fun a e n => by have := h.ns a e n; omega, fun a e n => by have := h.hs a e n; omega, fun a e n => by have := h.bs a e n; omega, fun r hr a n c e n0 => by have := h.rb r hr a n c e n0; omega⟩
theorem bytes_btw {S : Nat → Prop} {lo hi : Nat} {w w' : World} {ao : Option Addr} {n c : Nat} {bs : List UInt8} (h : Bytes w (.slice ao n c) bs) (f : ∀ a, ao = some a → bs ≠ [] → lo ≤ a.block ∧ a.block < hi) (k : Keeps S w w') (hs : ∀ q, S q → q < lo ∨ hi ≤ q) : Bytes w' (.slice ao n c) bs := by
  by_cases h0 : bs = []
  · subst h0
    obtain ⟨ao', c', e⟩ := h.form
    rw [e]; exact Bytes.nil _ _ _
  · exact h.keeps k (fun a n c e hS => by
      simp only [Value.slice.injEq] at e
      have := f a e.1 h0
      have := hs _ hS
      omega)
theorem reads_btw {S : Nat → Prop} {lo hi : Nat} {w w' : World} {v : Value} {bs : List UInt8} (h : Reads w v bs) (f : ∀ a n c, v = .slice (some a) n c → bs ≠ [] → lo ≤ a.block ∧ a.block < hi) (k : Keeps S w w') (hs : ∀ q, S q → q < lo ∨ hi ≤ q) : Reads w' v bs := by
  obtain ⟨ao, c, rfl, h1, h2⟩ := h
  exact ⟨ao, c, rfl, bytes_btw h1 (fun a e n => f a _ _ (by rw [e]) n) k hs, h2⟩
theorem range_keepS {S : Nat → Prop} {w w' : World} {g o : Nat} {cs : List Value} (h : w.rangeAt g o cs) (k : Keeps S w w') (hg : ¬ S g) : w'.rangeAt g o cs := fun j v hj => by
  have h1 := h j v hj
  have hb := World.block_lt_of_cell? w _ h1
  exact (World.cell?_of_block (w := w) (a := ⟨g, o + j, none⟩) (k.block g hb hg)).trans h1
theorem MsgIn.keep {S : Nat → Prop} {lo hi : Nat} {w w' : World} {m : Msg} (h : MsgIn w m) (f : MsgBtw lo hi m) (k : Keeps S w w') (hs : ∀ q, S q → q < lo ∨ hi ≤ q) : MsgIn w' m := by
  refine ⟨h.hd, bytes_btw h.od f.od k hs, bytes_btw h.ad f.ad k hs, ?_, ?_, ?_, reads_btw h.ro (fun a n c e n0 => f.od a (by simp only [Value.slice.injEq] at e; exact e.1) n0) k hs, reads_btw h.ra (fun a n c e n0 => f.ad a (by simp only [Value.slice.injEq] at e; exact e.1) n0) k hs, fun r hr => reads_btw (h.rb r hr) (f.rb r hr) k hs, h.cp, h.nm⟩
  · by_cases h0 : m.ns = []
    · have h2 := h.ns
      rw [h0] at h2 ⊢
      exact Strs.nil _ _ _
    · exact h.ns.keeps k (fun a n c e hS => by
        simp only [Value.slice.injEq] at e
        have := f.ns a e.1 h0
        have := hs _ hS
        omega)
  · refine ⟨h.hs.1, ?_⟩
    by_cases h0 : m.hs = []
    · exact .inl h0
    · rcases h.hs.2 with h2 | ⟨g, off, e, h2⟩
      · exact .inl h2
      · exact .inr ⟨g, off, e, fun j hj => range_keepS (h2 j hj) k (fun hS => by
          have := f.hs _ e h0
          have := hs _ hS
          simp only at *
          omega)⟩
  · rcases h.bs with ⟨a, c, e, hc⟩ | h2
    · refine .inl ⟨a, c, e, fun j r hj => ?_⟩
      obtain ⟨h1, h2⟩ := hc j r hj
      have hm : r ∈ m.bs := List.mem_of_getElem? hj
      have h0 : m.bs ≠ [] := fun e2 => by rw [e2] at hm; simp at hm
      simp only [Value.slice.injEq] at e
      have hb : (a.add j).block = a.block := by unfold Addr.add; split <;> rfl
      have hlt := World.block_lt_of_cell? w _ h1
      have hns : ¬ S a.block := fun hS => by
        have := f.bs a e.1 h0
        have := hs _ hS
        omega
      rw [World.cell?_of_block (w := w) (k.block _ hlt (by rw [hb]; exact hns))]
      refine ⟨h1, ?_⟩
      obtain ⟨ao, c', hx⟩ := h2.form
      have h3 := f.rb r hm
      rw [hx] at h2 h3 ⊢
      exact bytes_btw h2 (fun a e n => h3 a _ _ (by rw [e]) n) k hs
    · exact .inr h2

/-- What stands where wire.Read reads: eye, reader, result, message. -/
structure WSt (wz w w' : World) (E : Nat) (yv : Value) (bs : List UInt8) (i B4 G base : Nat) (m : Msg) : Prop where
  eye : EyeW wz w' E yv bs i
  hz : wz.heap.size = w.heap.size + 1
  rdr : Whole w' B4 91 [.pointer (some ⟨E, 0, none⟩)]
  res : Whole w' w.heap.size 45 zeroM.cells
  msg : MsgAt w' G m
  same : Same w w'
  ne : w.heap.size < E ∧ E < B4 ∧ B4 < G ∧ G < base ∧ base ≤ w'.heap.size ∧ ∀ j, yv.ownBlock = some j → j < B4
theorem WSt.call {wz w w' w'' : World} {E i j B4 G base : Nat} {yv : Value} {bs : List UInt8} {m : Msg} (h : WSt wz w w' E yv bs i B4 G base m) (k : Keeps (fun k => k = E) w' w'') (hy : EyeW wz w'' E yv bs j) : WSt wz w w'' E yv bs j B4 G base m := by
  obtain ⟨n1, n2, n3, n4, n5, n6⟩ := h.ne
  exact ⟨hy, h.hz, h.rdr.keep k (by omega), h.res.keep k (by omega), h.msg.keep k (by omega), h.same.trans k (fun q hq e => by omega), n1, n2, n3, n4, Nat.le_trans n5 k.size, n6⟩
theorem WSt.same' {wz w w' w'' : World} {E i B4 G base : Nat} {yv : Value} {bs : List UInt8} {m : Msg} (h : WSt wz w w' E yv bs i B4 G base m) (k : Same w' w'') : WSt wz w w'' E yv bs i B4 G base m := by
  obtain ⟨n1, n2, n3, n4, n5, n6⟩ := h.ne
  exact ⟨h.eye.same' k, h.hz, h.rdr.keep k (fun e => e), h.res.keep k (fun e => e), h.msg.keep k (fun e => e), h.same.trans k (fun _ _ e => e), n1, n2, n3, n4, Nat.le_trans n5 k.size, n6⟩
theorem WSt.far {S : Nat → Prop} {wz w w' w'' : World} {E i B4 G base : Nat} {yv : Value} {bs : List UInt8} {m : Msg} (h : WSt wz w w' E yv bs i B4 G base m) (k : Keeps S w' w'') (hs : ∀ q, S q → base ≤ q) : WSt wz w w'' E yv bs i B4 G base m := by
  obtain ⟨n1, n2, n3, n4, n5, n6⟩ := h.ne
  refine ⟨h.eye.keep' k (fun e => by have := hs _ e; omega) (fun q e e2 => by have := hs _ e2; have := n6 q e; omega) (fun q e => by have := hs _ e; have := h.hz; omega), h.hz, h.rdr.keep k (fun e => by have := hs _ e; omega), h.res.keep k (fun e => by have := hs _ e; omega), h.msg.keep k (fun e => by have := hs _ e; omega), h.same.trans k (fun q hq e => by have := hs _ e; omega), n1, n2, n3, n4, Nat.le_trans n5 k.size, n6⟩
theorem WSt.put {wz w w' w'' : World} {E i B4 G base : Nat} {yv : Value} {bs : List UInt8} {m m' : Msg} (h : WSt wz w w' E yv bs i B4 G base m) (k : Keeps (fun k => k = G) w' w'') (hm : MsgAt w'' G m') : WSt wz w w'' E yv bs i B4 G base m' := by
  obtain ⟨n1, n2, n3, n4, n5, n6⟩ := h.ne
  exact ⟨h.eye.keep' k (by omega) (fun q e e2 => by have := n6 q e; omega) (fun q e => by have := h.hz; omega), h.hz, h.rdr.keep k (by omega), h.res.keep k (by omega), hm, h.same.trans k (fun q hq e => by omega), n1, n2, n3, n4, Nat.le_trans n5 k.size, n6⟩

/-- A message's cell changed, or some of them. -/
theorem MsgAt.set {w : World} {G : Nat} {m : Msg} (h : MsgAt w G m) (q : Nat) (v : Value) (m' : Msg) (hc : m'.cells = m.cells.set q v) (hd : m'.hd.length = 32) : MsgAt (w.setCell ⟨G, q, none⟩ v) G m' := ⟨by rw [hc]; exact h.1.set q v, hd⟩
theorem MsgAt.putRow {w : World} {G : Nat} {m : Msg} (h : MsgAt w G m) (m' : Msg) (hd : m'.hd.length = 32) : MsgAt (w.setRow G m'.cells.toArray) G m' := ⟨h.1.row, hd⟩
def Msg.setN (m : Msg) : Nat → Nat → Msg
  | 0, x => { m with v := x }
  | 1, x => { m with n := x }
  | 2, x => { m with g := x }
  | _, x => { m with c := x }
theorem Msg.cells_setN (m : Msg) (j x : Nat) (h : j < 4) : (m.setN j x).cells = m.cells.set (3 + j) (.int .u64 (x : Int)) := by
  match j, h with
  | 0, _ => rfl
  | 1, _ => rfl
  | 2, _ => rfl
  | 3, _ => rfl
theorem Msg.setN_hd (m : Msg) (j x : Nat) : (m.setN j x).hd = m.hd := by
  match j with
  | 0 => rfl
  | 1 => rfl
  | 2 => rfl
  | _ + 3 => rfl
def n8To (bs : List UInt8) : Nat → Nat → Nat
  | i, 0 => i
  | i, k + 1 => numTo bs (n8To bs i k) 8
def Msg.rdN (bs : List UInt8) (i : Nat) (m : Msg) : Nat → Msg
  | 0 => m
  | k + 1 => (Msg.rdN bs i m k).setN k (numAt bs (n8To bs i k) 8)
theorem Msg.rdN_hd (bs : List UInt8) (i : Nat) (m : Msg) : ∀ k, (Msg.rdN bs i m k).hd = m.hd
  | 0 => rfl
  | k + 1 => by rw [Msg.rdN, Msg.setN_hd, Msg.rdN_hd bs i m k]
theorem cells_hd (m : Msg) (hx : List UInt8) (h : m.hd.length = 32) (h2 : hx.length = 32) : m.cells.take 7 ++ u8s hx ++ m.cells.drop (7 + (u8s hx).length) = ({ m with hd := hx } : Msg).cells := by
  have e1 : m.cells = m.nums ++ (u8s m.hd ++ (m.call ++ (m.ans ++ m.ends))) := rfl
  rw [e1, List.take_left' (by simp [Msg.nums]), u8s_length, h2, ← List.drop_drop, List.drop_left' (by simp [Msg.nums]), List.drop_left' (by rw [u8s_length, h]), List.append_assoc]
  rfl
theorem cells_op (m : Msg) (h : m.hd.length = 32) (k off n : Int) (p t : ByteArray) (oo : Option Addr) (od : List UInt8) (oc : Nat) :
    m.cells.take 41 ++ opCells k off n p t (.slice oo od.length oc) ++ m.cells.drop (41 + (opCells k off n p t (.slice oo od.length oc)).length) = ({ m with ok := k, off := off, on := n, p := p, q := t, oo := oo, od := od, oc := oc } : Msg).cells := by
  have e1 : m.cells = (m.nums ++ (u8s m.hd ++ [Value.int .i64 m.cl, Value.int .u64 (m.nr : Int)])) ++ (m.op ++ (m.ans ++ m.ends)) := by
    simp [Msg.cells, Msg.call, Msg.op, List.append_assoc]
  have l1 : (m.nums ++ (u8s m.hd ++ [Value.int .i64 m.cl, Value.int .u64 (m.nr : Int)])).length = 41 := by simp [Msg.nums, u8s_length, h]
  rw [e1, List.take_left' l1, ← List.drop_drop, List.drop_left' l1, List.drop_left' (by rfl)]
  simp [Msg.cells, Msg.nums, Msg.call, opCells, Msg.ans, Msg.ends, List.append_assoc]
theorem cells_ans (m : Msg) (h : m.hd.length = 32) (c n : Int) (ao : Option Addr) (ad : List UInt8) (ac : Nat) (no : Option Addr) (ns : List ByteArray) (nc : Nat) :
    m.cells.take 47 ++ ansCells c n (.slice ao ad.length ac) (.slice no ns.length nc) ++ m.cells.drop (47 + (ansCells c n (.slice ao ad.length ac) (.slice no ns.length nc)).length) = ({ m with ac := c, an := n, ao := ao, ad := ad, acap := ac, no := no, ns := ns, ncap := nc } : Msg).cells := by
  have e1 : m.cells = (m.nums ++ (u8s m.hd ++ m.call)) ++ (m.ans ++ m.ends) := by
    simp [Msg.cells, List.append_assoc]
  have l1 : (m.nums ++ (u8s m.hd ++ m.call)).length = 47 := by simp [Msg.nums, Msg.call, u8s_length, h]
  rw [e1, List.take_left' l1, ← List.drop_drop, List.drop_left' l1, List.drop_left' (by rfl)]
  simp [Msg.cells, Msg.nums, Msg.call, ansCells, Msg.ans, Msg.ends, List.append_assoc]
theorem cells_cl (m : Msg) (h : m.hd.length = 32) (x : Int) : ({ m with cl := x } : Msg).cells = m.cells.set 39 (.int .i64 x) := by
  rw [show m.cells = (m.nums ++ u8s m.hd) ++ (m.call ++ (m.ans ++ m.ends)) from by simp [Msg.cells], List.set_append_right _ _ (by simp [Msg.nums, u8s_length, h]),
    show 39 - (m.nums ++ u8s m.hd).length = 0 from by simp [Msg.nums, u8s_length, h]]
  simp [Msg.cells, Msg.nums, Msg.call, Msg.ans, Msg.ends]
theorem cells_nr (m : Msg) (h : m.hd.length = 32) (x : Nat) : ({ m with nr := x } : Msg).cells = m.cells.set 40 (.int .u64 (x : Int)) := by
  rw [show m.cells = (m.nums ++ u8s m.hd) ++ (m.call ++ (m.ans ++ m.ends)) from by simp [Msg.cells], List.set_append_right _ _ (by simp [Msg.nums, u8s_length, h]),
    show 40 - (m.nums ++ u8s m.hd).length = 1 from by simp [Msg.nums, u8s_length, h]]
  simp [Msg.cells, Msg.nums, Msg.call, Msg.ans, Msg.ends]
theorem cells_hs (m : Msg) (h : m.hd.length = 32) (ho : Option Addr) (hs : List (List UInt8)) (hc : Nat) : ({ m with ho := ho, hs := hs, hcap := hc } : Msg).cells = m.cells.set 51 (.slice ho hs.length hc) := by
  rw [show m.cells = (m.nums ++ (u8s m.hd ++ (m.call ++ m.ans))) ++ m.ends from by simp [Msg.cells], List.set_append_right _ _ (by simp [Msg.nums, Msg.call, Msg.ans, u8s_length, h]),
    show 51 - (m.nums ++ (u8s m.hd ++ (m.call ++ m.ans))).length = 0 from by simp [Msg.nums, Msg.call, Msg.ans, u8s_length, h]]
  simp [Msg.cells, Msg.nums, Msg.call, Msg.ans, Msg.ends]
theorem cells_bs (m : Msg) (h : m.hd.length = 32) (bo : Option Addr) (bs : List (Value × List UInt8)) (bc : Nat) : ({ m with bo := bo, bs := bs, bcap := bc } : Msg).cells = m.cells.set 52 (.slice bo bs.length bc) := by
  rw [show m.cells = (m.nums ++ (u8s m.hd ++ (m.call ++ m.ans))) ++ m.ends from by simp [Msg.cells], List.set_append_right _ _ (by simp [Msg.nums, Msg.call, Msg.ans, u8s_length, h]),
    show 52 - (m.nums ++ (u8s m.hd ++ (m.call ++ m.ans))).length = 1 from by simp [Msg.nums, Msg.call, Msg.ans, u8s_length, h]]
  simp [Msg.cells, Msg.nums, Msg.call, Msg.ans, Msg.ends]

structure OpP where
  k : Int
  off : Int
  n : Int
  p : ByteArray
  t : ByteArray
  oo : Option Addr
  od : List UInt8
  oc : Nat
structure AnsP where
  c : Int
  n : Int
  ao : Option Addr
  ad : List UInt8
  ac : Nat
  no : Option Addr
  ns : List ByteArray
  nc : Nat
structure HsP where
  ho : Option Addr
  hs : List (List UInt8)
  hc : Nat
structure BsP where
  bo : Option Addr
  bs : List (Value × List UInt8)
  bc : Nat
def opZ : OpP := ⟨0, 0, 0, ⟨#[]⟩, ⟨#[]⟩, none, [], 0⟩
def ansZ : AnsP := ⟨0, 0, none, [], 0, none, [], 0⟩
def hsZ : HsP := ⟨none, [], 0⟩
def bsZ : BsP := ⟨none, [], 0⟩
def Msg.full (a : Msg) (o : OpP) (r : AnsP) (h : HsP) (b : BsP) : Msg :=
  { a with ok := o.k, off := o.off, on := o.n, p := o.p, q := o.t, oo := o.oo, od := o.od, oc := o.oc, ac := r.c, an := r.n, ao := r.ao, ad := r.ad, acap := r.ac, no := r.no, ns := r.ns, ncap := r.nc, ho := h.ho, hs := h.hs, hcap := h.hc, bo := b.bo, bs := b.bs, bcap := b.bc }
def OpP.cells (o : OpP) : List Value := opCells o.k o.off o.n o.p o.t (.slice o.oo o.od.length o.oc)
def AnsP.cells (r : AnsP) : List Value := ansCells r.c r.n (.slice r.ao r.ad.length r.ac) (.slice r.no r.ns.length r.nc)
theorem full_op (a : Msg) (o o' : OpP) (r : AnsP) (h : HsP) (b : BsP) (hd : a.hd.length = 32) : (a.full o r h b).cells.take 41 ++ o'.cells ++ (a.full o r h b).cells.drop (41 + o'.cells.length) = (a.full o' r h b).cells :=
  cells_op (a.full o r h b) hd o'.k o'.off o'.n o'.p o'.t o'.oo o'.od o'.oc
theorem full_ans (a : Msg) (o : OpP) (r r' : AnsP) (h : HsP) (b : BsP) (hd : a.hd.length = 32) : (a.full o r h b).cells.take 47 ++ r'.cells ++ (a.full o r h b).cells.drop (47 + r'.cells.length) = (a.full o r' h b).cells :=
  cells_ans (a.full o r h b) hd r'.c r'.n r'.ao r'.ad r'.ac r'.no r'.ns r'.nc
theorem full_hs (a : Msg) (o : OpP) (r : AnsP) (h h' : HsP) (b : BsP) (hd : a.hd.length = 32) : (a.full o r h' b).cells = (a.full o r h b).cells.set 51 (.slice h'.ho h'.hs.length h'.hc) :=
  cells_hs (a.full o r h b) hd h'.ho h'.hs h'.hc
theorem full_bs (a : Msg) (o : OpP) (r : AnsP) (h : HsP) (b b' : BsP) (hd : a.hd.length = 32) : (a.full o r h b').cells = (a.full o r h b).cells.set 52 (.slice b'.bo b'.bs.length b'.bc) :=
  cells_bs (a.full o r h b) hd b'.bo b'.bs b'.bc
theorem bytes_of_reads {w : World} {v : Value} {b : List UInt8} (h : Reads w v b) : Bytes w v b := by
  obtain ⟨_, _, _, h1, _⟩ := h; exact h1
theorem MsgIn.newOp {w : World} {a : Msg} {o : OpP} {r : AnsP} {h : HsP} {b : BsP} (hm : MsgIn w (a.full o r h b)) (o' : OpP) (hr : Reads w (.slice o'.oo o'.od.length o'.oc) o'.od) (hc : o'.oc ≤ 9223372036854775807) : MsgIn w (a.full o' r h b) :=
  ⟨hm.hd, bytes_of_reads hr, hm.ad, hm.ns, hm.hs, hm.bs, hr, hm.ra, hm.rb, ⟨hc, hm.cp.2⟩, hm.nm⟩
theorem MsgIn.newAns {w : World} {a : Msg} {o : OpP} {r : AnsP} {h : HsP} {b : BsP} (hm : MsgIn w (a.full o r h b)) (r' : AnsP) (hr : Reads w (.slice r'.ao r'.ad.length r'.ac) r'.ad) (hn : Strs w (.slice r'.no r'.ns.length r'.nc) r'.ns) (hc : r'.ac ≤ 9223372036854775807 ∧ r'.ns.length ≤ r'.nc ∧ r'.nc ≤ 9223372036854775807) : MsgIn w (a.full o r' h b) :=
  ⟨hm.hd, hm.od, bytes_of_reads hr, hn, hm.hs, hm.bs, hm.ro, hr, hm.rb, ⟨hm.cp.1, hc.1, hc.2.1, hc.2.2, hm.cp.2.2.2.2⟩, hm.nm⟩
theorem MsgIn.newHs {w : World} {a : Msg} {o : OpP} {r : AnsP} {h : HsP} {b : BsP} (hm : MsgIn w (a.full o r h b)) (h' : HsP) (hh : Hss w h'.ho h'.hs) (hc : h'.hs.length ≤ h'.hc ∧ h'.hc ≤ 9223372036854775807) : MsgIn w (a.full o r h' b) :=
  ⟨hm.hd, hm.od, hm.ad, hm.ns, hh, hm.bs, hm.ro, hm.ra, hm.rb, ⟨hm.cp.1, hm.cp.2.1, hm.cp.2.2.1, hm.cp.2.2.2.1, hc.1, hc.2, hm.cp.2.2.2.2.2.2⟩, hm.nm⟩
theorem MsgIn.newBs {w : World} {a : Msg} {o : OpP} {r : AnsP} {h : HsP} {b : BsP} (hm : MsgIn w (a.full o r h b)) (b' : BsP) (hh : Rows2 w (.slice b'.bo b'.bs.length b'.bc) b'.bs) (hr : ∀ x ∈ b'.bs, Reads w x.1 x.2) (hc : b'.bs.length ≤ b'.bc ∧ b'.bc ≤ 9223372036854775807) : MsgIn w (a.full o r h b') :=
  ⟨hm.hd, hm.od, hm.ad, hm.ns, hm.hs, hh, hm.ro, hm.ra, hr, ⟨hm.cp.1, hm.cp.2.1, hm.cp.2.2.1, hm.cp.2.2.2.1, hm.cp.2.2.2.2.1, hm.cp.2.2.2.2.2.1, hc.1, hc.2⟩, hm.nm⟩
theorem MsgBtw.newOp {lo hi : Nat} {a : Msg} {o : OpP} {r : AnsP} {h : HsP} {b : BsP} (hm : MsgBtw lo hi (a.full o r h b)) (o' : OpP) (hx : ∀ x, o'.oo = some x → o'.od ≠ [] → lo ≤ x.block ∧ x.block < hi) : MsgBtw lo hi (a.full o' r h b) := ⟨hx, hm.ad, hm.ns, hm.hs, hm.bs, hm.rb⟩
theorem MsgBtw.newAns {lo hi : Nat} {a : Msg} {o : OpP} {r : AnsP} {h : HsP} {b : BsP} (hm : MsgBtw lo hi (a.full o r h b)) (r' : AnsP) (hx : ∀ x, r'.ao = some x → r'.ad ≠ [] → lo ≤ x.block ∧ x.block < hi) (hy : ∀ x, r'.no = some x → r'.ns ≠ [] → lo ≤ x.block ∧ x.block < hi) : MsgBtw lo hi (a.full o r' h b) := ⟨hm.od, hx, hy, hm.hs, hm.bs, hm.rb⟩
theorem MsgBtw.newHs {lo hi : Nat} {a : Msg} {o : OpP} {r : AnsP} {h : HsP} {b : BsP} (hm : MsgBtw lo hi (a.full o r h b)) (h' : HsP) (hx : ∀ x, h'.ho = some x → h'.hs ≠ [] → lo ≤ x.block ∧ x.block < hi) : MsgBtw lo hi (a.full o r h' b) := ⟨hm.od, hm.ad, hm.ns, hx, hm.bs, hm.rb⟩
theorem MsgBtw.newBs {lo hi : Nat} {a : Msg} {o : OpP} {r : AnsP} {h : HsP} {b : BsP} (hm : MsgBtw lo hi (a.full o r h b)) (b' : BsP) (hx : ∀ x, b'.bo = some x → b'.bs ≠ [] → lo ≤ x.block ∧ x.block < hi) (hy : ∀ r ∈ b'.bs, ∀ a n c, r.1 = .slice (some a) n c → r.2 ≠ [] → lo ≤ a.block ∧ a.block < hi) : MsgBtw lo hi (a.full o r h b') := ⟨hm.od, hm.ad, hm.ns, hm.hs, hx, hy⟩
theorem bytes_blt {w : World} {a : Addr} {n c : Nat} {bs : List UInt8} (h : Bytes w (.slice (some a) n c) bs) (h0 : bs ≠ []) : a.block < w.heap.size := h.lt h0
theorem strs_blt {w : World} {a : Addr} {n c : Nat} {ss : List ByteArray} (h : Strs w (.slice (some a) n c) ss) (h0 : ss ≠ []) : a.block < w.heap.size := by
  rcases h with ⟨a', c', h1, hc⟩ | ⟨c', h1, _⟩
  · simp only [Value.slice.injEq, Option.some.injEq] at h1
    obtain ⟨rfl, _, _⟩ := h1
    cases ss with
    | nil => exact absurd rfl h0
    | cons s r =>
      have h2 := hc 0 s rfl
      have hb : (a.add 0).block = a.block := by unfold Addr.add; split <;> rfl
      have := World.block_lt_of_cell? w _ h2
      omega
  · simp at h1

/-- The cells of digests, one behind the other. -/
def hrow (l : List (List UInt8)) : List Value := l.flatMap u8s
theorem hrow_length : ∀ (l : List (List UInt8)), (∀ x ∈ l, x.length = 32) → (hrow l).length = l.length * 32
  | [], _ => rfl
  | x :: l, h => by
    have := hrow_length l (fun y hy => h y (by simp [hy]))
    simp only [hrow, List.flatMap_cons, List.length_append, u8s_length, h x (by simp), List.length_cons] at *
    omega
theorem hrow_get : ∀ (l : List (List UInt8)), (∀ x ∈ l, x.length = 32) → ∀ (j : Nat) (hj : j < l.length) (i : Nat) (v : Value), (u8s l[j])[i]? = some v → (hrow l)[j * 32 + i]? = some v
  | x :: l, h, 0, hj, i, v, hv => by
    have hi := (List.getElem?_eq_some_iff.1 hv).1
    simp only [hrow, List.flatMap_cons, Nat.zero_mul, Nat.zero_add]
    rw [List.getElem?_append_left (by simpa using hi)]
    simpa using hv
  | x :: l, h, j + 1, hj, i, v, hv => by
    have hl : (u8s x).length = 32 := by rw [u8s_length]; exact h x (by simp)
    simp only [hrow, List.flatMap_cons]
    rw [show (j + 1) * 32 + i = (u8s x).length + (j * 32 + i) from by rw [hl]; omega, List.getElem?_append_right (by omega), Nat.add_sub_cancel_left]
    exact hrow_get l (fun y hy => h y (by simp [hy])) j (by simpa using hj) i v (by simpa using hv)
theorem Hss.of_own {w : World} {base : Nat} {e : TypeId} {ho : Option Addr} {hc : Nat} {hs : List (List UInt8)} (h : w.ownsRow base e 32 (.slice ho hs.length hc) hs.length (hrow hs)) (hl : ∀ x ∈ hs, x.length = 32) : Hss w ho hs := by
  refine ⟨hl, ?_⟩
  rcases h.2 with ⟨e1, h0⟩ | ⟨g, cap, cur, e1, _⟩
  · exact .inl (List.length_eq_zero_iff.1 h0)
  · simp only [Value.slice.injEq] at e1
    obtain ⟨rfl, _, rfl⟩ := e1
    refine .inr ⟨g, 0, rfl, fun j hj i v hv => ?_⟩
    have h1 := h.cells rfl (j * 32 + i) v (hrow_get hs hl j hj i v hv)
    rw [add_at] at h1
    simpa using h1
theorem Rows2.of_own {w : World} {base : Nat} {e : TypeId} {bo : Option Addr} {bc : Nat} {bl : List (Value × List UInt8)} (h : w.ownsRow base e 1 (.slice bo bl.length bc) bl.length (bl.map (·.1))) (hr : ∀ r ∈ bl, Reads w r.1 r.2) : Rows2 w (.slice bo bl.length bc) bl := by
  rcases h.2 with ⟨e1, h0⟩ | ⟨g, cap, cur, e1, _⟩
  · simp only [Value.slice.injEq] at e1
    obtain ⟨rfl, h1, rfl⟩ := e1
    have h2 : bl = [] := List.length_eq_zero_iff.1 h0
    subst h2
    exact .inr ⟨0, rfl, rfl⟩
  · simp only [Value.slice.injEq] at e1
    obtain ⟨rfl, _, rfl⟩ := e1
    refine .inl ⟨_, _, rfl, fun j r hj => ?_⟩
    exact ⟨h.cells rfl j r.1 (by simp [hj]), bytes_of_reads (hr r (List.mem_of_getElem? hj))⟩
/-- A text of a block: where it lies. -/
def TxtB (lo : Nat) (w : World) (r : Value × List UInt8) : Prop := Reads w r.1 r.2 ∧ ∀ a n c, r.1 = .slice (some a) n c → lo ≤ a.block ∧ a.block < w.heap.size ∧ ∃ cur, w.heap[a.block]? = some (.cells cur 5 (0, 0))
theorem own_typ {w : World} {b : Nat} {e : TypeId} {sz : Nat} {v : Value} {n : Nat} {xs : List Value} (h : w.ownsRow b e sz v n xs) {k : Nat} (hk : v.ownBlock = some k) : ∃ cur, w.heap[k]? = some (.cells cur e (0, 0)) := by
  rcases h.2 with ⟨e, _⟩ | ⟨g, cp, cur, e, _, hg, _⟩
  · rw [e] at hk; simp [Value.ownBlock] at hk
  · rw [e] at hk
    obtain rfl : g = k := by cases hk; rfl
    exact ⟨cur, hg⟩
theorem TxtB.keep {S : Nat → Prop} {lo : Nat} {w w' : World} {r : Value × List UInt8} (h : TxtB lo w r) (k : Keeps S w w') (hs : ∀ q, S q → q < lo ∨ w.heap.size ≤ q ∨ ∃ cur t, w.heap[q]? = some (.cells cur t (0, 0)) ∧ t ≠ 5) : TxtB lo w' r := by
  have hn : ∀ a n c, r.1 = .slice (some a) n c → ¬ S a.block := fun a n c e hS => by
    obtain ⟨h1, h2, cur, h3⟩ := h.2 a n c e
    rcases hs _ hS with h4 | h4 | ⟨cur', t, h4, h5⟩
    · omega
    · omega
    · rw [h3] at h4
      simp only [Option.some.injEq, Obj.cells.injEq] at h4
      exact h5 h4.2.1.symm
  refine ⟨?_, fun a n c e => ?_⟩
  · obtain ⟨ao, c, e, h1, h2⟩ := h.1
    exact ⟨ao, c, e, h1.keeps k hn, h2⟩
  · obtain ⟨h1, h2, cur, h3⟩ := h.2 a n c e
    exact ⟨h1, Nat.lt_of_lt_of_le h2 k.size, cur, k.obj h3 (hn a n c e)⟩
end Go.Proofs.YtafgiljgefeefaaDoor
