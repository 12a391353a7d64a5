/- The document's Same of messages. -/
import Derived.Test.YtafgiljgefeefaaDoorWm8
import Derived.Test.YtafgiljgefeefaaDoorApart2
import Derived.Test.YtafgiljgefeefaaDoorWm5
import Derived.Test.YtafgiljgefeefaaDoorOpR1
namespace Go.Proofs.YtafgiljgefeefaaDoor
open Go.RowKit
set_option linter.unusedVariables false

/-- Two messages that say one thing. -/
structure Msg.Eqv (a b : Msg) : Prop where
  k : a.k = b.k
  f : a.f = b.f
  t : a.t = b.t
  v : a.v = b.v
  n : a.n = b.n
  g : a.g = b.g
  c : a.c = b.c
  hd : a.hd = b.hd
  cl : a.cl = b.cl
  nr : a.nr = b.nr
  op : a.ok = b.ok ∧ a.p = b.p ∧ a.q = b.q ∧ a.off = b.off ∧ a.on = b.on ∧ a.od = b.od
  ans : a.ac = b.ac ∧ a.an = b.an ∧ a.ad = b.ad ∧ a.ns = b.ns
  hs : a.hs = b.hs
  bs : a.bs.map (·.2) = b.bs.map (·.2)
theorem strW_list (b : List UInt8) : (⟨b.toArray⟩ : ByteArray).toList = b := by rw [toList_sb, sb_mk]

/-- As MsgIn, without the bounds of what is there behind. -/
structure MsgIn0 (w : World) (m : Msg) : Prop where
  hd : m.hd.length = 32
  od : Bytes w (.slice m.oo m.od.length m.oc) m.od
  ad : Bytes w (.slice m.ao m.ad.length m.acap) m.ad
  ns : Strs w (.slice m.no m.ns.length m.ncap) m.ns
  hs : Hss w m.ho m.hs
  bs : Rows2 w (.slice m.bo m.bs.length m.bcap) m.bs
  ro : Reads w (.slice m.oo m.od.length m.oc) m.od
  ra : Reads w (.slice m.ao m.ad.length m.acap) m.ad
  rb : ∀ r ∈ m.bs, Reads w r.1 r.2
theorem MsgIn0.same {w w' : World} {m : Msg} (h : MsgIn0 w m) (k : Same w w') : MsgIn0 w' m := ⟨h.hd, h.od.same k, h.ad.same k, h.ns.same k, h.hs.same k, h.bs.same k, h.ro.same k, h.ra.same k, fun r hr => (h.rb r hr).same k⟩
theorem MsgIn.in0 {w : World} {m : Msg} (h : MsgIn w m) : MsgIn0 w m := ⟨h.hd, h.od, h.ad, h.ns, h.hs, h.bs, h.ro, h.ra, h.rb⟩
set_option maxRecDepth 100000 in
set_option maxHeartbeats 51200000 in
theorem sameMsg0_any (m q : Msg) (w : World) (h : MsgIn0 w m) (h2 : MsgIn0 w q) (hl : m.ns.length ≤ 140737488351232 ∧ m.hs.length ≤ 140737488351232 ∧ m.bs.length ≤ 140737488351232) : Calls Tryd.prog 11 #[.agg m.cells.toArray, .agg q.cells.toArray] w (BoolPost w (m.Eqv q)) := by
  have HM := Lib.hid h
  have HQ := Lib.hid h2
  have HLN := Lib.hid hl
  obtain ⟨w1, hw1⟩ : ∃ w1, w.alloc (.cells m.cells.toArray 45) = w1 := ⟨_, rfl⟩
  obtain ⟨w2, hw2⟩ : ∃ w2, w1.alloc (.cells q.cells.toArray 45) = w2 := ⟨_, rfl⟩
  have HK : Hid (Same w w2) := Lib.hid (by rw [← hw2, ← hw1]; exact ((Keeps.refl _ _).alloc _).alloc _)
  have HBA : Hid (MsgAt w2 w.heap.size m) := Lib.hid (by
    have h1 : MsgAt w1 w.heap.size m := by rw [← hw1]; exact MsgAt.new w m h.hd
    rw [← hw2]; exact h1.keep ((Keeps.refl (fun _ => False) _).alloc _) (fun e => e))
  have HBB : Hid (MsgAt w2 w1.heap.size q) := Lib.hid (by rw [← hw2]; exact MsgAt.new w1 q h2.hd)
  have HL1 : Hid (m.hd.length = 32) := Lib.hid h.hd
  have HL2 : Hid (q.hd.length = 32) := Lib.hid h2.hd
  clear h h2 hl
  have a0 : w2.cell? ⟨w.heap.size, 0, none⟩ = some (.int .i64 m.k) := HBA.out.low 0 _ (by omega) rfl
  have b0 : w2.cell? ⟨w1.heap.size, 0, none⟩ = some (.int .i64 q.k) := HBB.out.low 0 _ (by omega) rfl
  have a1 : w2.cell? ⟨w.heap.size, 1, none⟩ = some (.int .i64 m.f) := HBA.out.low 1 _ (by omega) rfl
  have b1 : w2.cell? ⟨w1.heap.size, 1, none⟩ = some (.int .i64 q.f) := HBB.out.low 1 _ (by omega) rfl
  have a2 : w2.cell? ⟨w.heap.size, 2, none⟩ = some (.int .i64 m.t) := HBA.out.low 2 _ (by omega) rfl
  have b2 : w2.cell? ⟨w1.heap.size, 2, none⟩ = some (.int .i64 q.t) := HBB.out.low 2 _ (by omega) rfl
  have a3 : w2.cell? ⟨w.heap.size, 3, none⟩ = some (.int .u64 m.v) := HBA.out.low 3 _ (by omega) rfl
  have b3 : w2.cell? ⟨w1.heap.size, 3, none⟩ = some (.int .u64 q.v) := HBB.out.low 3 _ (by omega) rfl
  have a4 : w2.cell? ⟨w.heap.size, 4, none⟩ = some (.int .u64 m.n) := HBA.out.low 4 _ (by omega) rfl
  have b4 : w2.cell? ⟨w1.heap.size, 4, none⟩ = some (.int .u64 q.n) := HBB.out.low 4 _ (by omega) rfl
  have a5 : w2.cell? ⟨w.heap.size, 5, none⟩ = some (.int .u64 m.g) := HBA.out.low 5 _ (by omega) rfl
  have b5 : w2.cell? ⟨w1.heap.size, 5, none⟩ = some (.int .u64 q.g) := HBB.out.low 5 _ (by omega) rfl
  have a6 : w2.cell? ⟨w.heap.size, 6, none⟩ = some (.int .u64 m.c) := HBA.out.low 6 _ (by omega) rfl
  have b6 : w2.cell? ⟨w1.heap.size, 6, none⟩ = some (.int .u64 q.c) := HBB.out.low 6 _ (by omega) rfl
  by_cases q0 : m.k = q.k
  case neg =>
    have HF : Hid (¬ m.Eqv q) := Lib.hid (fun e => q0 e.k)
    have e0 : (m.k != q.k) = true := by simpa using q0
    clear q0
    go_enter Tryd.func11, Tryd.ntmps11
    go_wp2
    go_ret
    exact BoolPost.noW HK.out HF.out
  have e0 : (m.k != q.k) = false := by rw [q0]; simp
  have Q0 := Lib.hid q0
  clear q0
  by_cases q1 : m.f = q.f
  case neg =>
    have HF : Hid (¬ m.Eqv q) := Lib.hid (fun e => q1 e.f)
    have e1 : (m.f != q.f) = true := by simpa using q1
    clear q1
    go_enter Tryd.func11, Tryd.ntmps11
    go_wp2
    go_ret
    exact BoolPost.noW HK.out HF.out
  have e1 : (m.f != q.f) = false := by rw [q1]; simp
  have Q1 := Lib.hid q1
  clear q1
  by_cases q2 : m.t = q.t
  case neg =>
    have HF : Hid (¬ m.Eqv q) := Lib.hid (fun e => q2 e.t)
    have e2 : (m.t != q.t) = true := by simpa using q2
    clear q2
    go_enter Tryd.func11, Tryd.ntmps11
    go_wp2
    go_ret
    exact BoolPost.noW HK.out HF.out
  have e2 : (m.t != q.t) = false := by rw [q2]; simp
  have Q2 := Lib.hid q2
  clear q2
  by_cases q3 : m.v = q.v
  case neg =>
    have HF : Hid (¬ m.Eqv q) := Lib.hid (fun e => q3 e.v)
    have e3 : ((m.v : Int) != (q.v : Int)) = true := by simp; omega
    clear q3
    go_enter Tryd.func11, Tryd.ntmps11
    go_wp2
    go_ret
    exact BoolPost.noW HK.out HF.out
  have e3 : ((m.v : Int) != (q.v : Int)) = false := by rw [q3]; simp
  have Q3 := Lib.hid q3
  clear q3
  by_cases q4 : m.n = q.n
  case neg =>
    have HF : Hid (¬ m.Eqv q) := Lib.hid (fun e => q4 e.n)
    have e4 : ((m.n : Int) != (q.n : Int)) = true := by simp; omega
    clear q4
    go_enter Tryd.func11, Tryd.ntmps11
    go_wp2
    go_ret
    exact BoolPost.noW HK.out HF.out
  have e4 : ((m.n : Int) != (q.n : Int)) = false := by rw [q4]; simp
  have Q4 := Lib.hid q4
  clear q4
  by_cases q5 : m.g = q.g
  case neg =>
    have HF : Hid (¬ m.Eqv q) := Lib.hid (fun e => q5 e.g)
    have e5 : ((m.g : Int) != (q.g : Int)) = true := by simp; omega
    clear q5
    go_enter Tryd.func11, Tryd.ntmps11
    go_wp2
    go_ret
    exact BoolPost.noW HK.out HF.out
  have e5 : ((m.g : Int) != (q.g : Int)) = false := by rw [q5]; simp
  have Q5 := Lib.hid q5
  clear q5
  by_cases q6 : m.c = q.c
  case neg =>
    have HF : Hid (¬ m.Eqv q) := Lib.hid (fun e => q6 e.c)
    have e6 : ((m.c : Int) != (q.c : Int)) = true := by simp; omega
    clear q6
    go_enter Tryd.func11, Tryd.ntmps11
    go_wp2
    go_ret
    exact BoolPost.noW HK.out HF.out
  have e6 : ((m.c : Int) != (q.c : Int)) = false := by rw [q6]; simp
  have Q6 := Lib.hid q6
  clear q6
  have HI1 : Hid ((Tryd.prog.info? 32).map (·.size) = some (u8s m.hd).length) := Lib.hid (by rw [u8s_length, HL1.out]; exact Tryd.sizeHashW)
  have HI2 : Hid ((Tryd.prog.info? 32).map (·.size) = some (u8s q.hd).length) := Lib.hid (by rw [u8s_length, HL2.out]; exact Tryd.sizeHashW)
  have HEQ : Hid (∀ wz, (Op.equalIn 10000 32 (.agg (u8s m.hd).toArray) (.agg (u8s q.hd).toArray)).run Tryd.prog wz = .ok (decide (m.hd = q.hd)) wz) := Lib.hid (hash_equal m.hd q.hd HL1.out HL2.out)
  by_cases hq : m.hd = q.hd
  case neg =>
    have HF : Hid (¬ m.Eqv q) := Lib.hid (fun e => hq e.hd)
    rw [decide_eq_false hq] at HEQ
    clear hq
    go_enter Tryd.func11, Tryd.ntmps11
    go_wp2_with (first
    | ((with_reducible refine wpList_load_mid_w ?_ 32 (.tmp 54) ?_ w.heap.size 7 ?_ (u8s m.hd) _ HBA.out.hdR Tryd.underlying32 ?_ ?_ ?_); rfl; rfl; rfl; rfl; exact HI1.out)
    | ((with_reducible refine wpList_load_mid_w ?_ 32 (.tmp 56) ?_ w1.heap.size 7 ?_ (u8s q.hd) _ HBB.out.hdR Tryd.underlying32 ?_ ?_ ?_); rfl; rfl; rfl; rfl; exact HI2.out)
    | ((with_reducible refine wpList_neq_is ?_ (.tmp 55) (.tmp 57) 32 32 ?_ (u8s m.hd).toArray (u8s q.hd).toArray false ?_ ?_ Tryd.hashGuardH HEQ.out ?_); rfl; rfl; rfl; rfl))
    go_ret
    exact BoolPost.noW HK.out HF.out
  rw [decide_eq_true hq] at HEQ
  have HHD : Hid (m.hd = q.hd) := Lib.hid hq
  clear hq
  have a39 : w2.cell? ⟨w.heap.size, 39, none⟩ = some (.int .i64 m.cl) := HBA.out.high 0 39 _ rfl rfl
  have b39 : w2.cell? ⟨w1.heap.size, 39, none⟩ = some (.int .i64 q.cl) := HBB.out.high 0 39 _ rfl rfl
  have a40 : w2.cell? ⟨w.heap.size, 40, none⟩ = some (.int .u64 m.nr) := HBA.out.high 1 40 _ rfl rfl
  have b40 : w2.cell? ⟨w1.heap.size, 40, none⟩ = some (.int .u64 q.nr) := HBB.out.high 1 40 _ rfl rfl
  by_cases qcl : m.cl = q.cl
  case neg =>
    have HF : Hid (¬ m.Eqv q) := Lib.hid (fun e => qcl e.cl)
    have ecl : (m.cl != q.cl) = true := by simpa using qcl
    clear qcl
    go_enter Tryd.func11, Tryd.ntmps11
    go_wp2_with (first
    | ((with_reducible refine wpList_load_mid_w ?_ 32 (.tmp 54) ?_ w.heap.size 7 ?_ (u8s m.hd) _ HBA.out.hdR Tryd.underlying32 ?_ ?_ ?_); rfl; rfl; rfl; rfl; exact HI1.out)
    | ((with_reducible refine wpList_load_mid_w ?_ 32 (.tmp 56) ?_ w1.heap.size 7 ?_ (u8s q.hd) _ HBB.out.hdR Tryd.underlying32 ?_ ?_ ?_); rfl; rfl; rfl; rfl; exact HI2.out)
    | ((with_reducible refine wpList_neq_is ?_ (.tmp 55) (.tmp 57) 32 32 ?_ (u8s m.hd).toArray (u8s q.hd).toArray true ?_ ?_ Tryd.hashGuardH HEQ.out ?_); rfl; rfl; rfl; rfl))
    go_ret
    exact BoolPost.noW HK.out HF.out
  have ecl : (m.cl != q.cl) = false := by rw [qcl]; simp
  have Qcl := Lib.hid qcl
  clear qcl
  by_cases qnr : m.nr = q.nr
  case neg =>
    have HF : Hid (¬ m.Eqv q) := Lib.hid (fun e => qnr e.nr)
    have enr : ((m.nr : Int) != (q.nr : Int)) = true := by simp; omega
    clear qnr
    go_enter Tryd.func11, Tryd.ntmps11
    go_wp2_with (first
    | ((with_reducible refine wpList_load_mid_w ?_ 32 (.tmp 54) ?_ w.heap.size 7 ?_ (u8s m.hd) _ HBA.out.hdR Tryd.underlying32 ?_ ?_ ?_); rfl; rfl; rfl; rfl; exact HI1.out)
    | ((with_reducible refine wpList_load_mid_w ?_ 32 (.tmp 56) ?_ w1.heap.size 7 ?_ (u8s q.hd) _ HBB.out.hdR Tryd.underlying32 ?_ ?_ ?_); rfl; rfl; rfl; rfl; exact HI2.out)
    | ((with_reducible refine wpList_neq_is ?_ (.tmp 55) (.tmp 57) 32 32 ?_ (u8s m.hd).toArray (u8s q.hd).toArray true ?_ ?_ Tryd.hashGuardH HEQ.out ?_); rfl; rfl; rfl; rfl))
    go_ret
    exact BoolPost.noW HK.out HF.out
  have enr : ((m.nr : Int) != (q.nr : Int)) = false := by rw [qnr]; simp
  have Qnr := Lib.hid qnr
  clear qnr
  obtain ⟨ob, hob⟩ : ∃ b, decide (m.ok = q.ok ∧ m.p = q.p ∧ m.q = q.q ∧ m.off = q.off ∧ m.on = q.on ∧ m.od = q.od) = b := ⟨_, rfl⟩
  have HSO : Hid (Calls Tryd.prog 21 #[.agg m.op.toArray, .agg q.op.toArray] w2 fun e w' => e = .returned (.bool ob) ∧ Same w2 w') := Lib.hid (by
    obtain ⟨_, _, e1, h1, s1, _⟩ := HM.out.ro.same HK.out
    obtain ⟨_, _, e2, h2, s2, _⟩ := HQ.out.ro.same HK.out
    simp only [Value.slice.injEq] at e1 e2
    obtain ⟨rfl, _, rfl⟩ := e1
    obtain ⟨rfl, _, rfl⟩ := e2
    rw [← hob]
    exact sameOp_ok m.ok m.off m.on q.ok q.off q.on m.p m.q q.p q.q m.oo q.oo m.oc q.oc m.od q.od w2 h1 h2 s1 s2)
  have HOB : Hid (ob = true ↔ (m.ok = q.ok ∧ m.p = q.p ∧ m.q = q.q ∧ m.off = q.off ∧ m.on = q.on ∧ m.od = q.od)) := Lib.hid (by rw [← hob, decide_eq_true_eq])
  clear hob
  go_enter Tryd.func11, Tryd.ntmps11
  go_wp2_with (first
    | ((with_reducible refine wpList_load_mid_w ?_ 32 (.tmp 54) ?_ w.heap.size 7 ?_ (u8s m.hd) _ HBA.out.hdR Tryd.underlying32 ?_ ?_ ?_); rfl; rfl; rfl; rfl; exact HI1.out)
    | ((with_reducible refine wpList_load_mid_w ?_ 32 (.tmp 56) ?_ w1.heap.size 7 ?_ (u8s q.hd) _ HBB.out.hdR Tryd.underlying32 ?_ ?_ ?_); rfl; rfl; rfl; rfl; exact HI2.out)
    | ((with_reducible refine wpList_neq_is ?_ (.tmp 55) (.tmp 57) 32 32 ?_ (u8s m.hd).toArray (u8s q.hd).toArray true ?_ ?_ Tryd.hashGuardH HEQ.out ?_); rfl; rfl; rfl; rfl)
    | ((with_reducible refine wpList_load_mid_w ?_ 35 (.tmp 78) ?_ w.heap.size 41 ?_ m.op _ HBA.out.opR Tryd.underlying35 ?_ ?_ ?_); rfl; rfl; rfl; rfl; exact Tryd.sizeOpW)
    | ((with_reducible refine wpList_load_mid_w ?_ 35 (.tmp 81) ?_ w1.heap.size 41 ?_ q.op _ HBB.out.opR Tryd.underlying35 ?_ ?_ ?_); rfl; rfl; rfl; rfl; exact Tryd.sizeOpW))
  ((with_reducible refine HSO.out.mono ?_); rintro e w3 ⟨rfl, hk3⟩)
  have HK3 := Lib.hid hk3
  have HBA3 := Lib.hid (HBA.out.keep hk3 (fun e => e))
  have HBB3 := Lib.hid (HBB.out.keep hk3 (fun e => e))
  clear hk3 a0 b0 a1 b1 a2 b2 a3 b3 a4 b4 a5 b5 a6 b6 a39 b39 a40 b40 hw1 hw2
  cases ob with
  | false =>
    have HF : Hid (¬ m.Eqv q) := Lib.hid (fun e => by have := HOB.out.2 e.op; simp at this)
    go_wp2
    go_ret
    exact BoolPost.noW (HK.out.trans HK3.out (fun _ _ e => e)) HF.out
  | true =>
  have HKW3 := Lib.hid (HK.out.trans HK3.out (fun _ _ e => e))
  have HSA2 : Hid (Calls Tryd.prog 22 #[.agg m.ans.toArray, .agg q.ans.toArray] w3 fun e w' => ∃ b, e = .returned (.bool b) ∧ Same w3 w' ∧ (b = true ↔ (m.ac = q.ac ∧ m.an = q.an ∧ m.ad = q.ad ∧ m.ns = q.ns))) := Lib.hid (by
    obtain ⟨_, _, e1, h1, s1, _⟩ := HM.out.ra.same HKW3.out
    obtain ⟨_, _, e2, h2, s2, _⟩ := HQ.out.ra.same HKW3.out
    simp only [Value.slice.injEq] at e1 e2
    obtain ⟨rfl, _, rfl⟩ := e1
    obtain ⟨rfl, _, rfl⟩ := e2
    exact sameAns_ok m.ac m.an q.ac q.an m.ao q.ao m.no q.no m.acap q.acap m.ncap q.ncap m.ad q.ad m.ns q.ns w3 h1 h2 s1 s2 (HM.out.ns.same HKW3.out) (HQ.out.ns.same HKW3.out) HLN.out.1)
  go_wp2_with (first
    | ((with_reducible refine wpList_load_mid_w ?_ 41 (.tmp 87) ?_ w.heap.size 47 ?_ m.ans _ HBA3.out.ansR Tryd.underlying41 ?_ ?_ ?_); rfl; rfl; rfl; rfl; exact Tryd.sizeAnsW)
    | ((with_reducible refine wpList_load_mid_w ?_ 41 (.tmp 89) ?_ w1.heap.size 47 ?_ q.ans _ HBB3.out.ansR Tryd.underlying41 ?_ ?_ ?_); rfl; rfl; rfl; rfl; exact Tryd.sizeAnsW))
  ((with_reducible refine HSA2.out.mono ?_); rintro e w4 ⟨ab, rfl, hk4, hab⟩)
  have HAB := Lib.hid hab
  have HKW4 := Lib.hid (HKW3.out.trans hk4 (fun _ _ e => e))
  have HBA4 := Lib.hid (HBA3.out.keep hk4 (fun e => e))
  have HBB4 := Lib.hid (HBB3.out.keep hk4 (fun e => e))
  clear hk4 hab
  cases ab with
  | false =>
    have HF : Hid (¬ m.Eqv q) := Lib.hid (fun e => by have := HAB.out.2 e.ans; simp at this)
    go_wp2
    go_ret
    exact BoolPost.noW HKW4.out HF.out
  | true =>
  have a51 : w4.cell? ⟨w.heap.size, 51, none⟩ = some (.slice m.ho m.hs.length m.hcap) := HBA4.out.high 12 51 _ rfl rfl
  have b51 : w4.cell? ⟨w1.heap.size, 51, none⟩ = some (.slice q.ho q.hs.length q.hcap) := HBB4.out.high 12 51 _ rfl rfl
  have HSH := Lib.hid (sameHs_any m.ho q.ho m.hs.length q.hs.length m.hcap q.hcap m.hs q.hs w4 (HM.out.hs.same HKW4.out) (HQ.out.hs.same HKW4.out) rfl rfl HLN.out.2.1)
  unfold BoolPost at HSH
  go_wp2_with fail
  ((with_reducible refine HSH.out.mono ?_); rintro e w5 ⟨hb, rfl, hhb, hk5⟩)
  have HHB := Lib.hid hhb
  have HKW5 := Lib.hid (HKW4.out.trans hk5 (fun _ _ e => e))
  have HBA5 := Lib.hid (HBA4.out.keep hk5 (fun e => e))
  have HBB5 := Lib.hid (HBB4.out.keep hk5 (fun e => e))
  clear hk5 hhb a51 b51
  cases hb with
  | false =>
    have HF : Hid (¬ m.Eqv q) := Lib.hid (fun e => by have := HHB.out.2 e.hs; simp at this)
    go_wp2
    go_ret
    exact BoolPost.noW HKW5.out HF.out
  | true =>
  have a52 : w5.cell? ⟨w.heap.size, 52, none⟩ = some (.slice m.bo m.bs.length m.bcap) := HBA5.out.high 13 52 _ rfl rfl
  have b52 : w5.cell? ⟨w1.heap.size, 52, none⟩ = some (.slice q.bo q.bs.length q.bcap) := HBB5.out.high 13 52 _ rfl rfl
  have HEV : Hid (m.bs.map (·.2) = q.bs.map (·.2) → m.Eqv q) := Lib.hid (fun hb => ⟨Q0.out, Q1.out, Q2.out, Q3.out, Q4.out, Q5.out, Q6.out, HHD.out, Qcl.out, Qnr.out, HOB.out.1 (by simp), HAB.out.1 (by simp), HHB.out.1 (by simp), hb⟩)
  have HNE : Hid (¬ m.bs.map (·.2) = q.bs.map (·.2) → ¬ m.Eqv q) := Lib.hid (fun h e => h e.bs)
  obtain ⟨n, hn⟩ : ∃ n, m.bs.length = n := ⟨_, rfl⟩
  obtain ⟨n2, hn2⟩ : ∃ n, q.bs.length = n := ⟨_, rfl⟩
  obtain ⟨bo, hbo⟩ : ∃ x, m.bo = x := ⟨_, rfl⟩
  obtain ⟨bo2, hbo2⟩ : ∃ x, q.bo = x := ⟨_, rfl⟩
  have HN : Hid (m.bs.length = n ∧ q.bs.length = n2) := Lib.hid ⟨hn, hn2⟩
  have HR1 : Hid (Rows2 w (.slice bo n m.bcap) m.bs) := Lib.hid (by rw [← hbo, ← hn]; exact HM.out.bs)
  have HR2 : Hid (Rows2 w (.slice bo2 n2 q.bcap) q.bs) := Lib.hid (by rw [← hbo2, ← hn2]; exact HQ.out.bs)
  have hnl : n ≤ 140737488351232 := by rw [← hn]; exact HLN.out.2.2
  have HAX : Hid (∀ w', Same w5 w' → w'.cell? ⟨w.heap.size, 52, none⟩ = some (.slice bo n m.bcap) ∧ w'.cell? ⟨w1.heap.size, 52, none⟩ = some (.slice bo2 n2 q.bcap)) := Lib.hid (fun w' k => by
    rw [← hbo, ← hbo2, ← hn, ← hn2]
    exact ⟨cell_same a52 k, cell_same b52 k⟩)
  rw [hn, hbo] at a52
  rw [hn2, hbo2] at b52
  clear hn hn2 hbo hbo2
  by_cases hnn : n = n2
  case neg =>
    have HF : Hid (¬ m.Eqv q) := Lib.hid (HNE.out (fun e => hnn (by rw [← HN.out.1, ← HN.out.2, ← List.length_map (f := fun x : Value × List UInt8 => x.2), e, List.length_map])))
    have hb : ((n : Int) != (n2 : Int)) = true := by simp; omega
    go_wp2
    go_ret
    exact BoolPost.noW HKW5.out HF.out
  subst hnn
  have hb : ((n : Int) != (n : Int)) = false := by simp
  go_wp2
  clear a52 b52
  go_loopw [5] (fun i wr => ∃ j : Nat, j ≤ n ∧ i = .int .i64 j ∧ Hid ((m.bs.map (·.2)).take j = (q.bs.map (·.2)).take j) ∧ Hid (Same w5 wr)) (fun i _ => n - (intOf i).toNat)
  case atStart => exact ⟨0, by omega, rfl, Lib.hid (by simp), Lib.hid (Keeps.refl _ _)⟩
  case round =>
    obtain ⟨j, hj, rfl, HT, HS⟩ := hrel
    have HWR := Lib.hid (HKW5.out.trans HS.out (fun _ _ e => e))
    have a52 := (HAX.out _ HS.out).1
    by_cases hlt : j < n
    · have hjp : j < m.bs.length := by rw [HN.out.1]; exact hlt
      have hjq : j < q.bs.length := by rw [HN.out.2]; exact hlt
      obtain ⟨pa, xo, xc, rfl, hx, hc, -⟩ := HR1.out.at hjp
      obtain ⟨pb, xo2, xc2, rfl, hx2, hc2, -⟩ := HR2.out.at hjq
      have HRA : Hid (Reads w (m.bs[j]).1 (m.bs[j]).2) := Lib.hid (HM.out.rb _ (List.getElem_mem hjp))
      have HRB : Hid (Reads w (q.bs[j]).1 (q.bs[j]).2) := Lib.hid (HQ.out.rb _ (List.getElem_mem hjq))
      rw [hx] at HRA
      rw [hx2] at HRB
      have HG1 : Hid ((m.bs.map (·.2))[j]? = some (m.bs[j]).2) := Lib.hid (by simp [hjp])
      have HG2 : Hid ((q.bs.map (·.2))[j]? = some (q.bs[j]).2) := Lib.hid (by simp [hjq])
      have HCA := Lib.hid hc
      have HCB := Lib.hid hc2
      clear hc hc2 hx hx2
      generalize (m.bs[j]).2 = x at HRA HG1 HCA
      generalize (q.bs[j]).2 = y at HRB HG2 HCB
      have HA : Hid (∀ w', Same w w' → w'.cell? (pa.add j) = some (.slice xo x.length xc) ∧ Reads w' (.slice xo x.length xc) x) := Lib.hid (fun w' k => ⟨cell_same HCA.out k, HRA.out.same k⟩)
      have HB : Hid (∀ w', Same w w' → w'.cell? (pb.add j) = some (.slice xo2 y.length xc2) ∧ Reads w' (.slice xo2 y.length xc2) y) := Lib.hid (fun w' k => ⟨cell_same HCB.out k, HRB.out.same k⟩)
      obtain ⟨va, hva⟩ : ∃ v, (Value.slice xo x.length xc) = v := ⟨_, rfl⟩
      obtain ⟨vb, hvb⟩ : ∃ v, (Value.slice xo2 y.length xc2) = v := ⟨_, rfl⟩
      rw [hva] at HA
      rw [hvb] at HB
      have hjn : (j : Int) < (n : Int) := by omega
      clear hjp hjq HCA HCB HRA HRB hva hvb
      by_cases hd : x = y
      · subst hd
        go_wp2
        refine wp_region_do [[], [0], [], [1, 2], [3], [4], [], [6], [], [7, 8], [9], [10], [5, 11]]
          [some 118, some 119, some 120, some 121, some 122, some 123, some 124, some 125, some 126, some 127, some 128, some 129, some 130]
          [.is (.pointer (some ⟨w.heap.size, 52, none⟩)), .is (.slice (some pa) n m.bcap), .is (.int .i64 (j : Int)), .is (.pointer (some (pa.add j))), .is (va), .is (.string ⟨x.toArray⟩), .is (.pointer (some ⟨w1.heap.size, 52, none⟩)), .is (.slice (some pb) n q.bcap), .is (.int .i64 (j : Int)), .is (.pointer (some (pb.add j))), .is (vb), .is (.string ⟨x.toArray⟩), .is (.bool false)]
          8 _ _ 131 13 (by kernel_rfl) (by rfl) (by rfl) (by kernel_rfl) (by kernel_rfl) (by decide) ?_ ?_
        · refine ⟨?_, ?_, ?_, ?_, ?_, ?_, ?_, ?_, ?_, ?_, ?_, ?_, ?_, trivial⟩
          · intro a w' K hs' hdep hfr hK
            have f2 := hfr 2 (by decide)
            exact plan_do (by rfl) (plan_yield (i := 0) (V := fun _ _ v => v = (.pointer (some ⟨w.heap.size, 52, none⟩) : Value)) (.pointer (some ⟨w.heap.size, 52, none⟩)) (by go_simp) rfl hK)
          · intro a w' K hs' hdep hfr hK
            have e118 : a.tmps[118]?.getD undef = (.pointer (some ⟨w.heap.size, 52, none⟩)) := hdep 0 (by decide) 118 rfl
            have cc := HAX.out _ (HS.out.trans hs' (fun _ _ e => e))
            have cl := cc.1
            exact plan_do (by rfl) (plan_yield (i := 1) (V := fun _ _ v => v = (.slice (some pa) n m.bcap : Value)) (.slice (some pa) n m.bcap) (by go_simp) rfl hK)
          · intro a w' K hs' hdep hfr hK
            have f5 := hfr 5 (by decide)
            exact plan_do (by rfl) (plan_yield (i := 2) (V := fun _ _ v => v = (.int .i64 (j : Int) : Value)) (.int .i64 (j : Int)) (by go_simp) rfl hK)
          · intro a w' K hs' hdep hfr hK
            have e119 : a.tmps[119]?.getD undef = (.slice (some pa) n m.bcap) := hdep 1 (by decide) 119 rfl
            have e120 : a.tmps[120]?.getD undef = (.int .i64 (j : Int)) := hdep 2 (by decide) 120 rfl
            have hin : (j : Int) < (n : Int) := by omega
            exact plan_do (by rfl) (plan_yield (i := 3) (V := fun _ _ v => v = (.pointer (some (pa.add j)) : Value)) (.pointer (some (pa.add j))) (by go_simp) rfl hK)
          · intro a w' K hs' hdep hfr hK
            have e121 : a.tmps[121]?.getD undef = (.pointer (some (pa.add j))) := hdep 3 (by decide) 121 rfl
            have ca := HA.out _ (HWR.out.trans hs' (fun _ _ e => e))
            have cl := ca.1
            exact plan_do (by rfl) (plan_yield (i := 4) (V := fun _ _ v => v = (va : Value)) (va) (by go_simp) rfl hK)
          · intro a w' K hs' hdep hfr hK
            have e122 : a.tmps[122]?.getD undef = (va) := hdep 4 (by decide) 122 rfl
            have ca := HA.out _ (HWR.out.trans hs' (fun _ _ e => e))
            have cl := run_reads ca.2
            exact plan_do (by rfl) (plan_yield (i := 5) (V := fun _ _ v => v = (.string ⟨x.toArray⟩ : Value)) (.string ⟨x.toArray⟩) (by go_simp) rfl hK)
          · intro a w' K hs' hdep hfr hK
            have f3 := hfr 3 (by decide)
            exact plan_do (by rfl) (plan_yield (i := 6) (V := fun _ _ v => v = (.pointer (some ⟨w1.heap.size, 52, none⟩) : Value)) (.pointer (some ⟨w1.heap.size, 52, none⟩)) (by go_simp) rfl hK)
          · intro a w' K hs' hdep hfr hK
            have e124 : a.tmps[124]?.getD undef = (.pointer (some ⟨w1.heap.size, 52, none⟩)) := hdep 6 (by decide) 124 rfl
            have cc := HAX.out _ (HS.out.trans hs' (fun _ _ e => e))
            have cl := cc.2
            exact plan_do (by rfl) (plan_yield (i := 7) (V := fun _ _ v => v = (.slice (some pb) n q.bcap : Value)) (.slice (some pb) n q.bcap) (by go_simp) rfl hK)
          · intro a w' K hs' hdep hfr hK
            have f5 := hfr 5 (by decide)
            exact plan_do (by rfl) (plan_yield (i := 8) (V := fun _ _ v => v = (.int .i64 (j : Int) : Value)) (.int .i64 (j : Int)) (by go_simp) rfl hK)
          · intro a w' K hs' hdep hfr hK
            have e125 : a.tmps[125]?.getD undef = (.slice (some pb) n q.bcap) := hdep 7 (by decide) 125 rfl
            have e126 : a.tmps[126]?.getD undef = (.int .i64 (j : Int)) := hdep 8 (by decide) 126 rfl
            have hin : (j : Int) < (n : Int) := by omega
            exact plan_do (by rfl) (plan_yield (i := 9) (V := fun _ _ v => v = (.pointer (some (pb.add j)) : Value)) (.pointer (some (pb.add j))) (by go_simp) rfl hK)
          · intro a w' K hs' hdep hfr hK
            have e127 : a.tmps[127]?.getD undef = (.pointer (some (pb.add j))) := hdep 9 (by decide) 127 rfl
            have cb := HB.out _ (HWR.out.trans hs' (fun _ _ e => e))
            have cl := cb.1
            exact plan_do (by rfl) (plan_yield (i := 10) (V := fun _ _ v => v = (vb : Value)) (vb) (by go_simp) rfl hK)
          · intro a w' K hs' hdep hfr hK
            have e128 : a.tmps[128]?.getD undef = (vb) := hdep 10 (by decide) 128 rfl
            have cb := HB.out _ (HWR.out.trans hs' (fun _ _ e => e))
            have cl := run_reads cb.2
            exact plan_do (by rfl) (plan_yield (i := 11) (V := fun _ _ v => v = (.string ⟨x.toArray⟩ : Value)) (.string ⟨x.toArray⟩) (by go_simp) rfl hK)
          · intro a w' K hs' hdep hfr hK
            have e123 : a.tmps[123]?.getD undef = (.string ⟨x.toArray⟩) := hdep 5 (by decide) 123 rfl
            have e129 : a.tmps[129]?.getD undef = (.string ⟨x.toArray⟩) := hdep 11 (by decide) 129 rfl
            have z1 := strW_list x
            have z2 := strW_list x
            exact plan_do (by rfl) (plan_yield (i := 12) (V := fun _ _ v => v = (.bool false : Value)) (.bool false) (by go_simp) rfl hK)
        intro a wz hkz hdef hsz hv hfr
        have e130 : a.tmps[130]?.getD undef = (.bool false) := hv 12 130 rfl
        have he := act_eq a _ [some 118, some 119, some 120, some 121, some 122, some 123, some 124, some 125, some 126, some 127, some 128, some 129, some 130] 131 rfl hsz hdef hfr (fun d => a.tmps[d]?.getD undef) (fun _ _ => rfl)
        obtain ⟨v118, h118⟩ : ∃ v, a.tmps[118]?.getD undef = v := ⟨_, rfl⟩
        obtain ⟨v119, h119⟩ : ∃ v, a.tmps[119]?.getD undef = v := ⟨_, rfl⟩
        obtain ⟨v120, h120⟩ : ∃ v, a.tmps[120]?.getD undef = v := ⟨_, rfl⟩
        obtain ⟨v121, h121⟩ : ∃ v, a.tmps[121]?.getD undef = v := ⟨_, rfl⟩
        obtain ⟨v122, h122⟩ : ∃ v, a.tmps[122]?.getD undef = v := ⟨_, rfl⟩
        obtain ⟨v123, h123⟩ : ∃ v, a.tmps[123]?.getD undef = v := ⟨_, rfl⟩
        obtain ⟨v124, h124⟩ : ∃ v, a.tmps[124]?.getD undef = v := ⟨_, rfl⟩
        obtain ⟨v125, h125⟩ : ∃ v, a.tmps[125]?.getD undef = v := ⟨_, rfl⟩
        obtain ⟨v126, h126⟩ : ∃ v, a.tmps[126]?.getD undef = v := ⟨_, rfl⟩
        obtain ⟨v127, h127⟩ : ∃ v, a.tmps[127]?.getD undef = v := ⟨_, rfl⟩
        obtain ⟨v128, h128⟩ : ∃ v, a.tmps[128]?.getD undef = v := ⟨_, rfl⟩
        obtain ⟨v129, h129⟩ : ∃ v, a.tmps[129]?.getD undef = v := ⟨_, rfl⟩
        simp only [putAll, e130, h118, h119, h120, h121, h122, h123, h124, h125, h126, h127, h128, h129, List.setIfInBounds_toArray, List.set_cons_zero, List.set_cons_succ] at he
        clear e130 h118 h119 h120 h121 h122 h123 h124 h125 h126 h127 h128 h129 hdef hsz hv hfr
        subst he
        have HKZ := Lib.hid hkz
        clear hkz
        go_wp2
        go_roundw
        case rel => exact ⟨j + 1, by omega, by go_num, Lib.hid (take_stepW HT.out HG1.out HG2.out), Lib.hid (HS.out.trans HKZ.out (fun _ _ e => e))⟩
        case measure => simp [intOf]; omega
      · have HD := Lib.hid hd
        clear hd
        go_wp2
        refine wp_region_do [[], [0], [], [1, 2], [3], [4], [], [6], [], [7, 8], [9], [10], [5, 11]]
          [some 118, some 119, some 120, some 121, some 122, some 123, some 124, some 125, some 126, some 127, some 128, some 129, some 130]
          [.is (.pointer (some ⟨w.heap.size, 52, none⟩)), .is (.slice (some pa) n m.bcap), .is (.int .i64 (j : Int)), .is (.pointer (some (pa.add j))), .is (va), .is (.string ⟨x.toArray⟩), .is (.pointer (some ⟨w1.heap.size, 52, none⟩)), .is (.slice (some pb) n q.bcap), .is (.int .i64 (j : Int)), .is (.pointer (some (pb.add j))), .is (vb), .is (.string ⟨y.toArray⟩), .is (.bool true)]
          8 _ _ 131 13 (by kernel_rfl) (by rfl) (by rfl) (by kernel_rfl) (by kernel_rfl) (by decide) ?_ ?_
        · refine ⟨?_, ?_, ?_, ?_, ?_, ?_, ?_, ?_, ?_, ?_, ?_, ?_, ?_, trivial⟩
          · intro a w' K hs' hdep hfr hK
            have f2 := hfr 2 (by decide)
            exact plan_do (by rfl) (plan_yield (i := 0) (V := fun _ _ v => v = (.pointer (some ⟨w.heap.size, 52, none⟩) : Value)) (.pointer (some ⟨w.heap.size, 52, none⟩)) (by go_simp) rfl hK)
          · intro a w' K hs' hdep hfr hK
            have e118 : a.tmps[118]?.getD undef = (.pointer (some ⟨w.heap.size, 52, none⟩)) := hdep 0 (by decide) 118 rfl
            have cc := HAX.out _ (HS.out.trans hs' (fun _ _ e => e))
            have cl := cc.1
            exact plan_do (by rfl) (plan_yield (i := 1) (V := fun _ _ v => v = (.slice (some pa) n m.bcap : Value)) (.slice (some pa) n m.bcap) (by go_simp) rfl hK)
          · intro a w' K hs' hdep hfr hK
            have f5 := hfr 5 (by decide)
            exact plan_do (by rfl) (plan_yield (i := 2) (V := fun _ _ v => v = (.int .i64 (j : Int) : Value)) (.int .i64 (j : Int)) (by go_simp) rfl hK)
          · intro a w' K hs' hdep hfr hK
            have e119 : a.tmps[119]?.getD undef = (.slice (some pa) n m.bcap) := hdep 1 (by decide) 119 rfl
            have e120 : a.tmps[120]?.getD undef = (.int .i64 (j : Int)) := hdep 2 (by decide) 120 rfl
            have hin : (j : Int) < (n : Int) := by omega
            exact plan_do (by rfl) (plan_yield (i := 3) (V := fun _ _ v => v = (.pointer (some (pa.add j)) : Value)) (.pointer (some (pa.add j))) (by go_simp) rfl hK)
          · intro a w' K hs' hdep hfr hK
            have e121 : a.tmps[121]?.getD undef = (.pointer (some (pa.add j))) := hdep 3 (by decide) 121 rfl
            have ca := HA.out _ (HWR.out.trans hs' (fun _ _ e => e))
            have cl := ca.1
            exact plan_do (by rfl) (plan_yield (i := 4) (V := fun _ _ v => v = (va : Value)) (va) (by go_simp) rfl hK)
          · intro a w' K hs' hdep hfr hK
            have e122 : a.tmps[122]?.getD undef = (va) := hdep 4 (by decide) 122 rfl
            have ca := HA.out _ (HWR.out.trans hs' (fun _ _ e => e))
            have cl := run_reads ca.2
            exact plan_do (by rfl) (plan_yield (i := 5) (V := fun _ _ v => v = (.string ⟨x.toArray⟩ : Value)) (.string ⟨x.toArray⟩) (by go_simp) rfl hK)
          · intro a w' K hs' hdep hfr hK
            have f3 := hfr 3 (by decide)
            exact plan_do (by rfl) (plan_yield (i := 6) (V := fun _ _ v => v = (.pointer (some ⟨w1.heap.size, 52, none⟩) : Value)) (.pointer (some ⟨w1.heap.size, 52, none⟩)) (by go_simp) rfl hK)
          · intro a w' K hs' hdep hfr hK
            have e124 : a.tmps[124]?.getD undef = (.pointer (some ⟨w1.heap.size, 52, none⟩)) := hdep 6 (by decide) 124 rfl
            have cc := HAX.out _ (HS.out.trans hs' (fun _ _ e => e))
            have cl := cc.2
            exact plan_do (by rfl) (plan_yield (i := 7) (V := fun _ _ v => v = (.slice (some pb) n q.bcap : Value)) (.slice (some pb) n q.bcap) (by go_simp) rfl hK)
          · intro a w' K hs' hdep hfr hK
            have f5 := hfr 5 (by decide)
            exact plan_do (by rfl) (plan_yield (i := 8) (V := fun _ _ v => v = (.int .i64 (j : Int) : Value)) (.int .i64 (j : Int)) (by go_simp) rfl hK)
          · intro a w' K hs' hdep hfr hK
            have e125 : a.tmps[125]?.getD undef = (.slice (some pb) n q.bcap) := hdep 7 (by decide) 125 rfl
            have e126 : a.tmps[126]?.getD undef = (.int .i64 (j : Int)) := hdep 8 (by decide) 126 rfl
            have hin : (j : Int) < (n : Int) := by omega
            exact plan_do (by rfl) (plan_yield (i := 9) (V := fun _ _ v => v = (.pointer (some (pb.add j)) : Value)) (.pointer (some (pb.add j))) (by go_simp) rfl hK)
          · intro a w' K hs' hdep hfr hK
            have e127 : a.tmps[127]?.getD undef = (.pointer (some (pb.add j))) := hdep 9 (by decide) 127 rfl
            have cb := HB.out _ (HWR.out.trans hs' (fun _ _ e => e))
            have cl := cb.1
            exact plan_do (by rfl) (plan_yield (i := 10) (V := fun _ _ v => v = (vb : Value)) (vb) (by go_simp) rfl hK)
          · intro a w' K hs' hdep hfr hK
            have e128 : a.tmps[128]?.getD undef = (vb) := hdep 10 (by decide) 128 rfl
            have cb := HB.out _ (HWR.out.trans hs' (fun _ _ e => e))
            have cl := run_reads cb.2
            exact plan_do (by rfl) (plan_yield (i := 11) (V := fun _ _ v => v = (.string ⟨y.toArray⟩ : Value)) (.string ⟨y.toArray⟩) (by go_simp) rfl hK)
          · intro a w' K hs' hdep hfr hK
            have e123 : a.tmps[123]?.getD undef = (.string ⟨x.toArray⟩) := hdep 5 (by decide) 123 rfl
            have e129 : a.tmps[129]?.getD undef = (.string ⟨y.toArray⟩) := hdep 11 (by decide) 129 rfl
            have z1 := strW_list x
            have z2 := strW_list y
            have z3 := HD.out
            have z4 : (x == y) = false := by simpa using z3
            exact plan_do (by rfl) (plan_yield (i := 12) (V := fun _ _ v => v = (.bool true : Value)) (.bool true) (by go_simp) rfl hK)
        intro a wz hkz hdef hsz hv hfr
        have e130 : a.tmps[130]?.getD undef = (.bool true) := hv 12 130 rfl
        have he := act_eq a _ [some 118, some 119, some 120, some 121, some 122, some 123, some 124, some 125, some 126, some 127, some 128, some 129, some 130] 131 rfl hsz hdef hfr (fun d => a.tmps[d]?.getD undef) (fun _ _ => rfl)
        obtain ⟨v118, h118⟩ : ∃ v, a.tmps[118]?.getD undef = v := ⟨_, rfl⟩
        obtain ⟨v119, h119⟩ : ∃ v, a.tmps[119]?.getD undef = v := ⟨_, rfl⟩
        obtain ⟨v120, h120⟩ : ∃ v, a.tmps[120]?.getD undef = v := ⟨_, rfl⟩
        obtain ⟨v121, h121⟩ : ∃ v, a.tmps[121]?.getD undef = v := ⟨_, rfl⟩
        obtain ⟨v122, h122⟩ : ∃ v, a.tmps[122]?.getD undef = v := ⟨_, rfl⟩
        obtain ⟨v123, h123⟩ : ∃ v, a.tmps[123]?.getD undef = v := ⟨_, rfl⟩
        obtain ⟨v124, h124⟩ : ∃ v, a.tmps[124]?.getD undef = v := ⟨_, rfl⟩
        obtain ⟨v125, h125⟩ : ∃ v, a.tmps[125]?.getD undef = v := ⟨_, rfl⟩
        obtain ⟨v126, h126⟩ : ∃ v, a.tmps[126]?.getD undef = v := ⟨_, rfl⟩
        obtain ⟨v127, h127⟩ : ∃ v, a.tmps[127]?.getD undef = v := ⟨_, rfl⟩
        obtain ⟨v128, h128⟩ : ∃ v, a.tmps[128]?.getD undef = v := ⟨_, rfl⟩
        obtain ⟨v129, h129⟩ : ∃ v, a.tmps[129]?.getD undef = v := ⟨_, rfl⟩
        simp only [putAll, e130, h118, h119, h120, h121, h122, h123, h124, h125, h126, h127, h128, h129, List.setIfInBounds_toArray, List.set_cons_zero, List.set_cons_succ] at he
        clear e130 h118 h119 h120 h121 h122 h123 h124 h125 h126 h127 h128 h129 hdef hsz hv hfr
        subst he
        have HKZ := Lib.hid hkz
        clear hkz
        go_wp2
        go_ret
        exact BoolPost.noW (HWR.out.trans HKZ.out (fun _ _ e => e)) (HNE.out (ne_atW HG1.out HG2.out HD.out))
    · obtain rfl : j = n := by omega
      have hjn : ¬ (j : Int) < (j : Int) := by omega
      go_wp2
      go_ret
      refine BoolPost.yesW HWR.out (HEV.out ?_)
      have := HT.out
      rwa [List.take_of_length_le (by rw [List.length_map, HN.out.1]; exact Nat.le_refl _), List.take_of_length_le (by rw [List.length_map, HN.out.2]; exact Nat.le_refl _)] at this
theorem sameMsg_any (m q : Msg) (w : World) (h : MsgIn w m) (h2 : MsgIn w q) (hl : m.ns.length ≤ 140737488351232 ∧ m.hs.length ≤ 140737488351232 ∧ m.bs.length ≤ 140737488351232) : Calls Tryd.prog 11 #[.agg m.cells.toArray, .agg q.cells.toArray] w (BoolPost w (m.Eqv q)) := sameMsg0_any m q w h.in0 h2.in0 hl
end Go.Proofs.YtafgiljgefeefaaDoor
