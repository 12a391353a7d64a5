/- A message's bytes tell it. No walk in this text. -/
import Derived.Test.YtafgiljgefeefaaDoorWm9
import Derived.Test.YtafgiljgefeefaaDoorWm6
namespace Go.Proofs.YtafgiljgefeefaaDoor
open Go.RowKit
set_option linter.unusedVariables false

theorem be1w (n : Nat) : be n 1 = [UInt8.ofNat n] := by simp [be]
theorem be_app {a b s : Nat} {x y : List UInt8} (h : be a s ++ x = be b s ++ y) (ha : a < 256 ^ s) (hb : b < 256 ^ s) : a = b ∧ x = y := by
  obtain ⟨h1, h2⟩ := List.append_inj h (by rw [be_length, be_length])
  exact ⟨(be_inj a b s ha hb).1 h1, h2⟩
theorem txt_app {a b x y : List UInt8} (h : txt a ++ x = txt b ++ y) (ha : a.length < 65536) (hb : b.length < 65536) : a = b ∧ x = y := by
  unfold txt at h
  rw [List.append_assoc, List.append_assoc] at h
  obtain ⟨h1, h2⟩ := be_app h (by omega) (by omega)
  exact List.append_inj h2 h1
theorem txts_app : ∀ (l r : List (List UInt8)), l.length = r.length → (∀ b ∈ l, b.length ≤ 470) → (∀ b ∈ r, b.length ≤ 470) → txts l = txts r → l = r
  | [], [], _, _, _, _ => rfl
  | x :: l, y :: r, h, h1, h2, e => by
    simp only [txts, List.flatMap_cons] at e
    obtain ⟨e1, e2⟩ := txt_app e (by have := h1 x (by simp); omega) (by have := h2 y (by simp); omega)
    rw [e1, txts_app l r (by simpa using h) (fun b hb => h1 b (by simp [hb])) (fun b hb => h2 b (by simp [hb])) e2]
theorem flat32_app : ∀ (l r : List (List UInt8)), l.length = r.length → (∀ b ∈ l, b.length = 32) → (∀ b ∈ r, b.length = 32) → l.flatten = r.flatten → l = r
  | [], [], _, _, _, _ => rfl
  | x :: l, y :: r, h, h1, h2, e => by
    simp only [List.flatten_cons] at e
    obtain ⟨e1, e2⟩ := List.append_inj e (by rw [h1 x (by simp), h2 y (by simp)])
    rw [e1, flat32_app l r (by simpa using h) (fun b hb => h1 b (by simp [hb])) (fun b hb => h2 b (by simp [hb])) e2]
theorem flat4 (a b c d s : Nat) : flatN [a, b, c, d] s 4 = be a s ++ (be b s ++ (be c s ++ be d s)) := by
  simp [flatN]
theorem flat4_inj {a b c d a' b' c' d' s : Nat} (h : flatN [a, b, c, d] s 4 = flatN [a', b', c', d'] s 4) (h1 : a < 256 ^ s) (h2 : b < 256 ^ s) (h3 : c < 256 ^ s) (h4 : d < 256 ^ s) (h1' : a' < 256 ^ s) (h2' : b' < 256 ^ s) (h3' : c' < 256 ^ s) (h4' : d' < 256 ^ s) : a = a' ∧ b = b' ∧ c = c' ∧ d = d' := by
  rw [flat4, flat4] at h
  obtain ⟨e1, h⟩ := be_app h h1 h1'
  obtain ⟨e2, h⟩ := be_app h h2 h2'
  obtain ⟨e3, h⟩ := be_app h h3 h3'
  exact ⟨e1, e2, e3, (be_inj _ _ s h4 h4').1 h⟩
def Msg.NumOk (m : Msg) : Prop := m.v < 18446744073709551616 ∧ m.n < 18446744073709551616 ∧ m.g < 18446744073709551616 ∧ m.c < 18446744073709551616 ∧ m.nr < 18446744073709551616
theorem head_inj {a b : Msg} (ha : a.Right) (hb : b.Right) (h1 : a.hd.length = 32) (h2 : b.hd.length = 32) (n1 : a.NumOk) (n2 : b.NumOk) (h : a.headB = b.headB) :
    a.k = b.k ∧ a.f = b.f ∧ a.t = b.t ∧ a.v = b.v ∧ a.n = b.n ∧ a.g = b.g ∧ a.c = b.c ∧ a.hd = b.hd ∧ a.cl = b.cl ∧ a.nr = b.nr := by
  have e8 : (256 : Nat) ^ 8 = 18446744073709551616 := by decide
  have e1 : (256 : Nat) ^ 1 = 256 := by decide
  unfold Msg.headB at h
  simp only [List.append_assoc] at h
  obtain ⟨q1, h⟩ := List.append_inj h (by rw [flatN_length _ _ _ (by simp [Msg.four]), flatN_length _ _ _ (by simp [Msg.four])])
  obtain ⟨q2, h⟩ := List.append_inj h (by rw [flatN_length _ _ _ (by simp [Msg.eight]), flatN_length _ _ _ (by simp [Msg.eight])])
  obtain ⟨q3, h⟩ := List.append_inj h (by rw [h1, h2])
  have c1 := ha.clr
  have c2 := hb.clr
  obtain ⟨q4, h⟩ := be_app h (by rw [e1]; omega) (by rw [e1]; omega)
  have q5 := (be_inj _ _ 8 (by rw [e8]; exact n1.2.2.2.2) (by rw [e8]; exact n2.2.2.2.2)).1 h
  have k1 := ha.kind
  have k2 := hb.kind
  have f1 := ha.frm
  have f2 := hb.frm
  have t1 := ha.to
  have t2 := hb.to
  unfold Msg.four at q1
  unfold Msg.eight at q2
  obtain ⟨_, r2, r3, r4⟩ := flat4_inj q1 (by omega) (by omega) (by omega) (by omega) (by omega) (by omega) (by omega) (by omega)
  obtain ⟨s1, s2, s3, s4⟩ := flat4_inj q2 (by rw [e8]; exact n1.1) (by rw [e8]; exact n1.2.1) (by rw [e8]; exact n1.2.2.1) (by rw [e8]; exact n1.2.2.2.1) (by rw [e8]; exact n2.1) (by rw [e8]; exact n2.2.1) (by rw [e8]; exact n2.2.2.1) (by rw [e8]; exact n2.2.2.2.1)
  exact ⟨by omega, by omega, by omega, s1, s2, s3, s4, q3, by omega, q5⟩
theorem Msg.Eqv.body {a b : Msg} (h : a.Eqv b) : a.bodyB = b.bodyB := by
  obtain ⟨o1, o2, o3, o4, o5, o6⟩ := h.op
  obtain ⟨s1, s2, s3, s4⟩ := h.ans
  have hl : a.bs.length = b.bs.length := by
    have := congrArg List.length h.bs
    simpa using this
  unfold Msg.bodyB Msg.frontB Msg.headB Msg.opB Msg.ansB Msg.four Msg.eight
  rw [h.k, h.f, h.t, h.v, h.n, h.g, h.c, h.hd, h.cl, h.nr, o1, o2, o3, o4, o5, o6, s1, s2, s3, s4, h.hs, h.bs, hl]
theorem Msg.Eqv.bytes {a b : Msg} (h : a.Eqv b) : a.bytes = b.bytes := by unfold Msg.bytes; rw [h.body]
theorem op_eq {a b : Msg} (ha : a.Right) (hb : b.Right) (hk : a.k = b.k) (h : a.opB = b.opB) : a.ok = b.ok ∧ a.p = b.p ∧ a.q = b.q ∧ a.off = b.off ∧ a.on = b.on ∧ a.od = b.od := by
  unfold Msg.opB at h
  by_cases k1 : a.k = 1
  · rw [if_pos k1, if_pos (hk ▸ k1)] at h
    exact (opBytes_inj (ha.opOk k1) (hb.opOk (hk ▸ k1))).1 h
  · have h1 : OpBlank a.ok a.off a.on a.p a.q a.od.length := by
      have := ha.call
      unfold Msg.CallOk at this
      rw [if_neg k1] at this
      split at this
      · exact this.2.2
      · exact this.2.2
    have h2 : OpBlank b.ok b.off b.on b.p b.q b.od.length := by
      have := hb.call
      unfold Msg.CallOk at this
      rw [if_neg (hk ▸ k1)] at this
      split at this
      · exact this.2.2
      · exact this.2.2
    obtain ⟨a1, a2, a3, a4, a5, a6⟩ := h1
    obtain ⟨b1, b2, b3, b4, b5, b6⟩ := h2
    exact ⟨by rw [a1, b1], by rw [a2, b2], by rw [a3, b3], by rw [a4, b4], by rw [a5, b5], by rw [List.length_eq_zero_iff.1 a6, List.length_eq_zero_iff.1 b6]⟩
theorem ans_eq {a b : Msg} (ha : a.Right) (hb : b.Right) (hk : a.k = b.k) (h : a.ansB = b.ansB) : a.ac = b.ac ∧ a.an = b.an ∧ a.ad = b.ad ∧ a.ns = b.ns := by
  unfold Msg.ansB at h
  by_cases k1 : a.k = 2
  · rw [if_pos k1, if_pos (hk ▸ k1)] at h
    exact (ansBytes_inj (ha.ansR k1) (hb.ansR (hk ▸ k1))).1 h
  · have h1 := ha.ans
    have h2 := hb.ans
    unfold Msg.AnsOk at h1 h2
    rw [if_neg k1] at h1
    rw [if_neg (hk ▸ k1)] at h2
    obtain ⟨a1, a2, a3, a4⟩ := h1
    obtain ⟨b1, b2, b3, b4⟩ := h2
    exact ⟨by rw [a1, b1], by rw [a2, b2], by rw [List.length_eq_zero_iff.1 a3, List.length_eq_zero_iff.1 b3], by rw [List.length_eq_zero_iff.1 a4, List.length_eq_zero_iff.1 b4]⟩
theorem body_inj {a b : Msg} (ha : a.Right) (hb : b.Right) (h1 : a.hd.length = 32) (h2 : b.hd.length = 32) (n1 : a.NumOk) (n2 : b.NumOk) (s1 : ∀ h ∈ a.hs, h.length = 32) (s2 : ∀ h ∈ b.hs, h.length = 32) (h : a.bodyB = b.bodyB) : a.Eqv b := by
  have e1 : (256 : Nat) ^ 1 = 256 := by decide
  unfold Msg.bodyB Msg.frontB at h
  simp only [List.append_assoc] at h
  obtain ⟨q1, h⟩ := List.append_inj h (by rw [a.headB_length h1, b.headB_length h2])
  obtain ⟨r1, r2, r3, r4, r5, r6, r7, r8, r9, r10⟩ := head_inj ha hb h1 h2 n1 n2 q1
  obtain ⟨q2, h⟩ := txt_app h (by have := ha.op_len; omega) (by have := hb.op_len; omega)
  obtain ⟨q3, h⟩ := txt_app h (by have := ha.ans_len; omega) (by have := hb.ans_len; omega)
  obtain ⟨q4, h⟩ := be_app h (by have := ha.hs; omega) (by have := hb.hs; omega)
  obtain ⟨q5, h⟩ := List.append_inj h (by rw [flat32 _ s1, flat32 _ s2, q4])
  obtain ⟨q6, h⟩ := be_app h (by have := ha.bs; omega) (by have := hb.bs; omega)
  have each : ∀ {m : Msg}, m.Right → ∀ x ∈ m.bs.map (·.2), x.length ≤ 470 := fun hm x hx => by
    obtain ⟨r, h1, rfl⟩ := List.mem_map.1 hx
    exact hm.each r h1
  exact ⟨r1, r2, r3, r4, r5, r6, r7, r8, r9, r10, op_eq ha hb r1 q2, ans_eq ha hb r1 q3, flat32_app _ _ q4 s1 s2 q5, txts_app _ _ (by rw [List.length_map, List.length_map, q6]) (each ha) (each hb) h⟩
theorem Msg.bytes_length (m : Msg) : m.bytes.length = m.bodyB.length + 8 := by
  unfold Msg.bytes
  rw [List.length_append, List.length_take, shaOf_length]; rfl
theorem bytes_inj {a b : Msg} (ha : a.Right) (hb : b.Right) (h1 : a.hd.length = 32) (h2 : b.hd.length = 32) (n1 : a.NumOk) (n2 : b.NumOk) (s1 : ∀ h ∈ a.hs, h.length = 32) (s2 : ∀ h ∈ b.hs, h.length = 32) : a.bytes = b.bytes ↔ a.Eqv b := by
  refine ⟨fun h => ?_, fun h => h.bytes⟩
  have hl := congrArg List.length h
  rw [a.bytes_length, b.bytes_length] at hl
  unfold Msg.bytes at h
  exact body_inj ha hb h1 h2 n1 n2 s1 s2 (List.append_inj h (by omega)).1
/-- How a message's bytes begin. -/
theorem bytes_begin {m : Msg} (h : m.Right) (hd : m.hd.length = 32) : 91 ≤ m.bytes.length ∧ m.bytes[0]? = some 3 ∧ m.bytes[1]? = some (UInt8.ofNat m.k.toNat) ∧ m.bytes[2]? = some (UInt8.ofNat m.f.toNat) ∧ m.bytes[3]? = some (UInt8.ofNat m.t.toNat) := by
  have hb : ∃ r, m.bytes = 3 :: UInt8.ofNat m.k.toNat :: UInt8.ofNat m.f.toNat :: UInt8.ofNat m.t.toNat :: r := by
    unfold Msg.bytes Msg.bodyB Msg.frontB Msg.headB Msg.four
    rw [flat4]
    simp only [be1w, List.cons_append, List.nil_append, List.append_assoc]
    exact ⟨_, rfl⟩
  obtain ⟨r, hr⟩ := hb
  refine ⟨?_, by rw [hr]; rfl, by rw [hr]; rfl, by rw [hr]; rfl, by rw [hr]; rfl⟩
  rw [m.bytes_length]
  unfold Msg.bodyB Msg.frontB txt
  simp only [List.length_append, be_length, m.headB_length hd]
  omega
end Go.Proofs.YtafgiljgefeefaaDoor
