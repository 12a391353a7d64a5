/- wire.Write. -/
import Derived.Test.YtafgiljgefeefaaDoorOp2
import Derived.Test.YtafgiljgefeefaaDoorAns2
import Derived.Test.YtafgiljgefeefaaDoorWhole
import Derived.Test.YtafgiljgefeefaaDoorRows2
import Derived.Test.YtafgiljgefeefaaDoorArr
import Derived.Test.YtafgiljgefeefaaDoorPlan5
import Derived.Test.YtafgiljgefeefaaDoorLrow
import Derived.Test.YtafgiljgefeefaaDoorPenW
import Derived.Test.YtafgiljgefeefaaDoorSha8
import Derived.Test.YtafgiljgefeefaaDoorZero32
namespace Go.Proofs.YtafgiljgefeefaaDoor
open Go.RowKit
set_option linter.unusedVariables false

/-- A slice of digests. -/
def Hss (w : World) (ao : Option Addr) (hs : List (List UInt8)) : Prop := (∀ h ∈ hs, h.length = 32) ∧ (hs = [] ∨ ∃ g off, ao = some ⟨g, off, none⟩ ∧ ∀ j (h : j < hs.length), w.rangeAt g (off + j * 32) (u8s hs[j]))
theorem rangeW_same {w w' : World} {g o : Nat} {cs : List Value} (h : w.rangeAt g o cs) (k : Same w w') : w'.rangeAt g o cs := fun j v hj => by
  have h1 := h j v hj
  have hb := World.block_lt_of_cell? w _ h1
  exact (World.cell?_of_block (w := w) (a := ⟨g, o + j, none⟩) (k.block g hb (fun e => e))).trans h1
theorem Hss.same {w w' : World} {ao : Option Addr} {hs : List (List UInt8)} (h : Hss w ao hs) (k : Same w w') : Hss w' ao hs := by
  refine ⟨h.1, ?_⟩
  rcases h.2 with h2 | ⟨g, off, e, h2⟩
  · exact .inl h2
  · exact .inr ⟨g, off, e, fun j hj => rangeW_same (h2 j hj) k⟩
theorem Hss.at {w : World} {ao : Option Addr} {hs : List (List UInt8)} (h : Hss w ao hs) {j : Nat} (hj : j < hs.length) : ∃ g off, ao = some ⟨g, off, none⟩ ∧ w.rangeAt g (off + j * 32) (u8s hs[j]) := by
  rcases h.2 with h2 | ⟨g, off, e, h2⟩
  · subst h2; simp at hj
  · exact ⟨g, off, e, h2 j hj⟩

/-- A message: its cells, and what its slices read as. -/
structure Msg where
  k : Int
  f : Int
  t : Int
  v : Nat
  n : Nat
  g : Nat
  c : Nat
  hd : List UInt8
  cl : Int
  nr : Nat
  ok : Int
  p : ByteArray
  q : ByteArray
  off : Int
  on : Int
  oo : Option Addr
  oc : Nat
  od : List UInt8
  ac : Int
  an : Int
  ao : Option Addr
  acap : Nat
  ad : List UInt8
  no : Option Addr
  ncap : Nat
  ns : List ByteArray
  ho : Option Addr
  hcap : Nat
  hs : List (List UInt8)
  bo : Option Addr
  bcap : Nat
  bs : List (Value × List UInt8)
def Msg.nums (m : Msg) : List Value := [.int .i64 m.k, .int .i64 m.f, .int .i64 m.t, .int .u64 m.v, .int .u64 m.n, .int .u64 m.g, .int .u64 m.c]
def Msg.op (m : Msg) : List Value := [.int .i64 m.ok, .string m.p, .string m.q, .int .i64 m.off, .int .i64 m.on, .slice m.oo m.od.length m.oc]
def Msg.call (m : Msg) : List Value := [.int .i64 m.cl, .int .u64 m.nr, .int .i64 m.ok, .string m.p, .string m.q, .int .i64 m.off, .int .i64 m.on, .slice m.oo m.od.length m.oc]
def Msg.ans (m : Msg) : List Value := [.int .i64 m.ac, .int .i64 m.an, .slice m.ao m.ad.length m.acap, .slice m.no m.ns.length m.ncap]
def Msg.ends (m : Msg) : List Value := [.slice m.ho m.hs.length m.hcap, .slice m.bo m.bs.length m.bcap]
def Msg.cells (m : Msg) : List Value := m.nums ++ (u8s m.hd ++ (m.call ++ (m.ans ++ m.ends)))
structure MsgIn (w : World) (m : Msg) : Prop where
  hd : m.hd.length = 32
  od : Bytes w (.slice m.oo m.od.length m.oc) m.od
  ad : Bytes w (.slice m.ao m.ad.length m.acap) m.ad
  ns : Strs w (.slice m.no m.ns.length m.ncap) m.ns
  hs : Hss w m.ho m.hs
  bs : Rows2 w (.slice m.bo m.bs.length m.bcap) m.bs
  ro : Reads w (.slice m.oo m.od.length m.oc) m.od
  ra : Reads w (.slice m.ao m.ad.length m.acap) m.ad
  rb : ∀ r ∈ m.bs, Reads w r.1 r.2
  cp : m.oc ≤ 9223372036854775807 ∧ m.acap ≤ 9223372036854775807 ∧ m.ns.length ≤ m.ncap ∧ m.ncap ≤ 9223372036854775807 ∧ m.hs.length ≤ m.hcap ∧ m.hcap ≤ 9223372036854775807 ∧ m.bs.length ≤ m.bcap ∧ m.bcap ≤ 9223372036854775807
  nm : m.v < 18446744073709551616 ∧ m.n < 18446744073709551616 ∧ m.g < 18446744073709551616 ∧ m.c < 18446744073709551616 ∧ m.nr < 18446744073709551616
theorem MsgIn.same {w w' : World} {m : Msg} (h : MsgIn w m) (k : Same w w') : MsgIn w' m := ⟨h.hd, h.od.same k, h.ad.same k, h.ns.same k, h.hs.same k, h.bs.same k, h.ro.same k, h.ra.same k, fun r hr => (h.rb r hr).same k, h.cp, h.nm⟩

theorem Msg.cells_length (m : Msg) (h : m.hd.length = 32) : m.cells.length = 53 := by
  simp [Msg.cells, Msg.nums, Msg.call, Msg.ans, Msg.ends, u8s_length, h]
theorem Msg.cells_all (m : Msg) : m.cells.toArray.all (·.oneCell') = true := by
  simp [Msg.cells, Msg.nums, Msg.call, Msg.ans, Msg.ends, Value.oneCell', u8s]
theorem Tryd.sizeMsg : (Tryd.prog.info? 45).map (·.size) = some 53 := by kernel_rfl
theorem Tryd.sizeMsgOf (m : Msg) (h : m.hd.length = 32) : (Tryd.prog.info? 45).map (·.size) = some m.cells.toArray.size := by
  rw [List.size_toArray, m.cells_length h]; exact Tryd.sizeMsg
theorem Tryd.sizeCallW : (Tryd.prog.info? 37).map (·.size) = some 8 := by kernel_rfl
theorem Tryd.sizeOpW : (Tryd.prog.info? 35).map (·.size) = some 6 := by kernel_rfl
theorem Tryd.sizeAnsW : (Tryd.prog.info? 41).map (·.size) = some 4 := by kernel_rfl
theorem Tryd.sizeHashW : (Tryd.prog.info? 32).map (·.size) = some 32 := by kernel_rfl

/-- Where a message's cells lie. -/
theorem Msg.at_low (m : Msg) (i : Nat) (h : i < 7) : m.cells[i]? = m.nums[i]? := by
  rw [Msg.cells, List.getElem?_append_left (by simpa [Msg.nums] using h)]
theorem Msg.drop39 (m : Msg) (h : m.hd.length = 32) : m.cells.drop 39 = m.call ++ (m.ans ++ m.ends) := by
  rw [Msg.cells, ← List.append_assoc, List.drop_append_of_le_length (by simp [Msg.nums, u8s_length, h]), List.drop_of_length_le (by simp [Msg.nums, u8s_length, h]), List.nil_append]
theorem Msg.at_high (m : Msg) (h : m.hd.length = 32) (i : Nat) : m.cells[39 + i]? = (m.call ++ (m.ans ++ m.ends))[i]? := by
  rw [← m.drop39 h, List.getElem?_drop]
/-- A message's block. -/
def MsgAt (w : World) (B : Nat) (m : Msg) : Prop := Whole w B 45 m.cells ∧ m.hd.length = 32
theorem MsgAt.keep {S : Nat → Prop} {w w' : World} {B : Nat} {m : Msg} (h : MsgAt w B m) (k : Keeps S w w') (hB : ¬ S B) : MsgAt w' B m := ⟨h.1.keep k hB, h.2⟩
theorem MsgAt.low {w : World} {B : Nat} {m : Msg} (h : MsgAt w B m) (i : Nat) (v : Value) (hi : i < 7) (hv : m.nums[i]? = some v) : w.cell? ⟨B, i, none⟩ = some v := h.1.cell (by rw [m.at_low i hi]; exact hv)
theorem MsgAt.high {w : World} {B : Nat} {m : Msg} (h : MsgAt w B m) (i j : Nat) (v : Value) (hj : j = 39 + i) (hv : (m.call ++ (m.ans ++ m.ends))[i]? = some v) : w.cell? ⟨B, j, none⟩ = some v := by
  subst hj; exact h.1.cell (by rw [m.at_high h.2]; exact hv)
theorem MsgAt.rangeOf {w : World} {B : Nat} {m : Msg} (h : MsgAt w B m) (o : Nat) (cs : List Value) (hc : ∀ j v, cs[j]? = some v → m.cells[o + j]? = some v) : w.rangeAt B o cs := fun j v hj => h.1.cell (hc j v hj)
theorem MsgAt.callR {w : World} {B : Nat} {m : Msg} (h : MsgAt w B m) : w.rangeAt B 39 m.call := h.rangeOf 39 m.call (fun j v hj => by
  rw [m.at_high h.2, List.getElem?_append_left (List.getElem?_eq_some_iff.1 hj).1]; exact hj)
theorem MsgAt.opR {w : World} {B : Nat} {m : Msg} (h : MsgAt w B m) : w.rangeAt B 41 m.op := h.rangeOf 41 m.op (fun j v hj => by
  have hl : j < 6 := (List.getElem?_eq_some_iff.1 hj).1
  rw [show 41 + j = 39 + (2 + j) by omega, m.at_high h.2, List.getElem?_append_left (by simp [Msg.call]; omega)]
  rw [show m.call = [.int .i64 m.cl, .int .u64 m.nr] ++ m.op from rfl, List.getElem?_append_right (by simp)]
  simpa using hj)
theorem MsgAt.ansR {w : World} {B : Nat} {m : Msg} (h : MsgAt w B m) : w.rangeAt B 47 m.ans := h.rangeOf 47 m.ans (fun j v hj => by
  rw [show 47 + j = 39 + (8 + j) by omega, m.at_high h.2, List.getElem?_append_right (by simp [Msg.call]), List.getElem?_append_left (by have := (List.getElem?_eq_some_iff.1 hj).1; simp [Msg.call]; exact this)]
  simpa [Msg.call] using hj)
theorem MsgAt.hdR {w : World} {B : Nat} {m : Msg} (h : MsgAt w B m) : w.rangeAt B 7 (u8s m.hd) := h.rangeOf 7 (u8s m.hd) (fun j v hj => by
  have hl := (List.getElem?_eq_some_iff.1 hj).1
  rw [Msg.cells, List.getElem?_append_right (by simp [Msg.nums]), List.getElem?_append_left (by simpa [Msg.nums] using hl)]
  simpa [Msg.nums] using hj)
theorem MsgAt.new (w : World) (m : Msg) (h : m.hd.length = 32) : MsgAt (w.alloc (.cells m.cells.toArray 45)) w.heap.size m := ⟨heap_alloc_new w _, h⟩

def OpBlank (k off n : Int) (p t : ByteArray) (len : Nat) : Prop := k = 0 ∧ p = ⟨#[]⟩ ∧ t = ⟨#[]⟩ ∧ off = 0 ∧ n = 0 ∧ len = 0
def AnsBlank (c n : Int) (len nl : Nat) : Prop := c = 0 ∧ n = 0 ∧ len = 0 ∧ nl = 0
instance (k off n : Int) (p t : ByteArray) (len : Nat) : Decidable (OpBlank k off n p t len) := by unfold OpBlank; infer_instance
instance (c n : Int) (len nl : Nat) : Decidable (AnsBlank c n len nl) := by unfold AnsBlank; infer_instance
def Msg.CallOk (m : Msg) : Prop :=
  if m.k = 1 then (0 ≤ m.cl ∧ m.cl ≤ 3) ∧ m.nr ≠ 0 ∧ OpRight m.ok m.off m.on m.p m.q m.od.length
  else if m.k = 2 then (0 ≤ m.cl ∧ m.cl ≤ 3) ∧ m.nr ≠ 0 ∧ OpBlank m.ok m.off m.on m.p m.q m.od.length
  else m.cl = 0 ∧ m.nr = 0 ∧ OpBlank m.ok m.off m.on m.p m.q m.od.length
def Msg.AnsOk (m : Msg) : Prop := if m.k = 2 then AnsRight m.ac m.an m.ad.length m.ns else AnsBlank m.ac m.an m.ad.length m.ns.length
structure Msg.Right (m : Msg) : Prop where
  kind : 1 ≤ m.k ∧ m.k ≤ 8
  frm : 0 ≤ m.f ∧ m.f ≤ 255
  to : 0 ≤ m.t ∧ m.t ≤ 255
  call : m.CallOk
  ans : m.AnsOk
  hs : m.hs.length ≤ 16
  bs : m.bs.length ≤ 64
  each : ∀ b ∈ m.bs, b.2.length ≤ 470
end Go.Proofs.YtafgiljgefeefaaDoor
namespace Go.Proofs.YtafgiljgefeefaaDoor
open Go.RowKit
set_option linter.unusedVariables false

theorem str_empty {p : ByteArray} (h : ¬ p = ⟨#[]⟩) : (p.toList == []) = false ∧ ¬ p.toList = [] := by
  have h2 : ¬ p.toList = [] := by
    rw [toList_sb]; exact fun e => h (sb_inj (e.trans rfl))
  exact ⟨by simpa using h2, h2⟩

set_option maxRecDepth 100000 in
set_option maxHeartbeats 3200000 in
theorem blankOp_any (k off n : Int) (p t : ByteArray) (ao : Option Addr) (len cap : Nat) (w : World) :
    Calls Tryd.prog 62 #[opVal k off n p t (.slice ao len cap)] w fun e w' => e = .returned (.bool (decide (OpBlank k off n p t len))) ∧ Same w w' := by
  by_cases q1 : k = 0
  case neg =>
    rw [decide_eq_false (fun h => q1 h.1)]
    have e1 : (k == 0) = false := by simpa using q1
    go_enter Tryd.func62, Tryd.ntmps62
    go_wp2
    go_ret
    exact ⟨rfl, (Keeps.refl _ _).alloc _⟩
  by_cases q2 : p = ⟨#[]⟩
  case neg =>
    rw [decide_eq_false (fun h => q2 h.2.1)]
    obtain ⟨e1, e2⟩ := str_empty q2
    subst q1
    go_enter Tryd.func62, Tryd.ntmps62
    go_wp2
    go_ret
    exact ⟨rfl, (Keeps.refl _ _).alloc _⟩
  by_cases q3 : t = ⟨#[]⟩
  case neg =>
    rw [decide_eq_false (fun h => q3 h.2.2.1)]
    obtain ⟨e1, e2⟩ := str_empty q3
    subst q1
    subst q2
    go_enter Tryd.func62, Tryd.ntmps62
    go_wp2
    go_ret
    exact ⟨rfl, (Keeps.refl _ _).alloc _⟩
  by_cases q4 : off = 0
  case neg =>
    rw [decide_eq_false (fun h => q4 h.2.2.2.1)]
    have e1 : (off == 0) = false := by simpa using q4
    subst q1
    subst q2
    subst q3
    go_enter Tryd.func62, Tryd.ntmps62
    go_wp2
    go_ret
    exact ⟨rfl, (Keeps.refl _ _).alloc _⟩
  by_cases q5 : n = 0
  case neg =>
    rw [decide_eq_false (fun h => q5 h.2.2.2.2.1)]
    have e1 : (n == 0) = false := by simpa using q5
    subst q1
    subst q2
    subst q3
    subst q4
    go_enter Tryd.func62, Tryd.ntmps62
    go_wp2
    go_ret
    exact ⟨rfl, (Keeps.refl _ _).alloc _⟩
  rw [show decide (OpBlank k off n p t len) = ((len : Int) == 0) from by
    rw [Bool.eq_iff_iff]; simp only [decide_eq_true_eq, beq_iff_eq]
    exact ⟨fun h => by have := h.2.2.2.2.2; omega, fun h => ⟨q1, q2, q3, q4, q5, by omega⟩⟩]
  subst q1
  subst q2
  subst q3
  subst q4
  subst q5
  go_enter Tryd.func62, Tryd.ntmps62
  go_wp2
  go_ret
  exact ⟨rfl, (Keeps.refl _ _).alloc _⟩

set_option maxRecDepth 100000 in
set_option maxHeartbeats 3200000 in
theorem blankAns_any (c n : Int) (ao no : Option Addr) (len cap nl ncap : Nat) (w : World) :
    Calls Tryd.prog 63 #[ansVal c n (.slice ao len cap) (.slice no nl ncap)] w fun e w' => e = .returned (.bool (decide (AnsBlank c n len nl))) ∧ Same w w' := by
  by_cases q1 : c = 0
  case neg =>
    rw [decide_eq_false (fun h => q1 h.1)]
    have e1 : (c == 0) = false := by simpa using q1
    go_enter Tryd.func63, Tryd.ntmps63
    go_wp2
    go_ret
    exact ⟨rfl, (Keeps.refl _ _).alloc _⟩
  by_cases q2 : n = 0
  case neg =>
    rw [decide_eq_false (fun h => q2 h.2.1)]
    have e1 : (n == 0) = false := by simpa using q2
    subst q1
    go_enter Tryd.func63, Tryd.ntmps63
    go_wp2
    go_ret
    exact ⟨rfl, (Keeps.refl _ _).alloc _⟩
  by_cases q3 : len = 0
  case neg =>
    rw [decide_eq_false (fun h => q3 h.2.2.1)]
    have e1 : ((len : Int) == 0) = false := by simp; omega
    subst q1
    subst q2
    go_enter Tryd.func63, Tryd.ntmps63
    go_wp2
    go_ret
    exact ⟨rfl, (Keeps.refl _ _).alloc _⟩
  rw [show decide (AnsBlank c n len nl) = ((nl : Int) == 0) from by
    rw [Bool.eq_iff_iff]; simp only [decide_eq_true_eq, beq_iff_eq]
    exact ⟨fun h => by have := h.2.2.2; omega, fun h => ⟨q1, q2, q3, by omega⟩⟩]
  subst q1
  subst q2
  subst q3
  go_enter Tryd.func63, Tryd.ntmps63
  go_wp2
  go_ret
  exact ⟨rfl, (Keeps.refl _ _).alloc _⟩

set_option maxRecDepth 100000 in
set_option maxHeartbeats 3200000 in
theorem isPeer_any (n : Int) (w : World) : Calls Tryd.prog 48 #[.int .i64 n] w fun e w' => e = .returned (.bool (decide (0 ≤ n ∧ n ≤ 255))) ∧ w' = w := by
  by_cases q1 : 0 ≤ n
  case neg =>
    rw [decide_eq_false (fun h => q1 h.1)]
    go_enter Tryd.func48, Tryd.ntmps48
    go_wp2
    go_ret
    exact ⟨rfl, rfl⟩
  by_cases q2 : n ≤ 255
  · rw [decide_eq_true ⟨q1, q2⟩]
    go_enter Tryd.func48, Tryd.ntmps48
    go_wp2
    go_ret
    exact ⟨rfl, rfl⟩
  · rw [decide_eq_false (fun h => q2 h.2)]
    go_enter Tryd.func48, Tryd.ntmps48
    go_wp2
    go_ret
    exact ⟨rfl, rfl⟩

set_option maxRecDepth 100000 in
set_option maxHeartbeats 3200000 in
theorem blankCall_any (c : Int) (nr : Nat) (k off n : Int) (p t : ByteArray) (ao : Option Addr) (len cap : Nat) (w : World) :
    Calls Tryd.prog 61 #[.agg #[.int .i64 c, .int .u64 nr, .int .i64 k, .string p, .string t, .int .i64 off, .int .i64 n, .slice ao len cap]] w fun e w' => e = .returned (.bool (decide (c = 0 ∧ nr = 0 ∧ OpBlank k off n p t len))) ∧ Same w w' := by
  by_cases q1 : c = 0
  case neg =>
    rw [decide_eq_false (fun h => q1 h.1)]
    have e1 : (c == 0) = false := by simpa using q1
    go_enter Tryd.func61, Tryd.ntmps61
    go_wp2
    go_ret
    exact ⟨rfl, (Keeps.refl _ _).alloc _⟩
  by_cases q2 : nr = 0
  case neg =>
    rw [decide_eq_false (fun h => q2 h.2.1)]
    have e1 : ((nr : Int) == 0) = false := by simp; omega
    subst q1
    go_enter Tryd.func61, Tryd.ntmps61
    go_wp2
    go_ret
    exact ⟨rfl, (Keeps.refl _ _).alloc _⟩
  rw [show decide (c = 0 ∧ nr = 0 ∧ OpBlank k off n p t len) = decide (OpBlank k off n p t len) from decide_eq_decide.2 ⟨fun h => h.2.2, fun h => ⟨q1, q2, h⟩⟩]
  have HB := Lib.hid (fun w => blankOp_any k off n p t ao len cap w)
  unfold opVal at HB
  generalize decide (OpBlank k off n p t len) = b at HB ⊢
  subst q1
  subst q2
  have HK : Hid (Same w (w.alloc (.cells #[.int .i64 0, .int .u64 ((0 : Nat) : Int), .int .i64 k, .string p, .string t, .int .i64 off, .int .i64 n, .slice ao len cap] 37))) := Lib.hid ((Keeps.refl _ _).alloc _)
  have HR : Hid ((w.alloc (.cells #[.int .i64 0, .int .u64 ((0 : Nat) : Int), .int .i64 k, .string p, .string t, .int .i64 off, .int .i64 n, .slice ao len cap] 37)).rangeAt w.heap.size 2 [.int .i64 k, .string p, .string t, .int .i64 off, .int .i64 n, .slice ao len cap]) := Lib.hid (fun j v hj => by
    rw [cell_of_row _ _ _ _ _ _ (heap_alloc_new w _)]
    have : j < 6 := (List.getElem?_eq_some_iff.1 hj).1
    match j, this with
    | 0, _ => simpa using hj
    | 1, _ => simpa using hj
    | 2, _ => simpa using hj
    | 3, _ => simpa using hj
    | 4, _ => simpa using hj
    | 5, _ => simpa using hj)
  go_enter Tryd.func61, Tryd.ntmps61
  go_wp2_with fail
  ((with_reducible refine (HB.out _).mono ?_); rintro e w2 ⟨rfl, hk2⟩)
  have HK2 := Lib.hid (HK.out.trans hk2 (fun _ _ e => e))
  clear hk2
  go_wp2
  go_ret
  exact ⟨rfl, HK2.out⟩
end Go.Proofs.YtafgiljgefeefaaDoor
namespace Go.Proofs.YtafgiljgefeefaaDoor
open Go.RowKit
set_option linter.unusedVariables false

def call0 : List Value := [.int .i64 0, .int .u64 0, .int .i64 0, .string ⟨#[]⟩, .string ⟨#[]⟩, .int .i64 0, .int .i64 0, .slice none 0 0]
theorem Tryd.zeroCallW (w : World) : (zeroValue 37).run Tryd.prog w = .ok (.agg call0.toArray) w := by kernel_rfl
/-- A bool that tells whether. -/
def BoolPost (w : World) (p : Prop) (e : Ending) (w' : World) : Prop := ∃ b, e = .returned (.bool b) ∧ (b = true ↔ p) ∧ Same w w'
theorem Msg.call_all (m : Msg) : m.call.toArray.all (·.oneCell') = true := by simp [Msg.call, Value.oneCell']

set_option maxRecDepth 100000 in
set_option maxHeartbeats 6400000 in
theorem rightCall_any (m : Msg) (w : World) (h : MsgIn w m) : Calls Tryd.prog 49 #[.agg m.cells.toArray] w (BoolPost w m.CallOk) := by
  have HO := Lib.hid h.od
  obtain ⟨w1, hw1⟩ : ∃ w1, w.alloc (.cells m.cells.toArray 45) = w1 := ⟨_, rfl⟩
  have HB : Hid (MsgAt w1 w.heap.size m) := Lib.hid (by rw [← hw1]; exact MsgAt.new w m h.hd)
  have HK : Hid (Same w w1) := Lib.hid (by rw [← hw1]; exact (Keeps.refl _ _).alloc _)
  have HLT : Hid (w.heap.size < w1.heap.size) := Lib.hid (by rw [← hw1]; simp)
  have hzc := Tryd.zeroCallW
  have HC : Hid (m.CallOk ↔ if m.k = 1 then (0 ≤ m.cl ∧ m.cl ≤ 3) ∧ m.nr ≠ 0 ∧ OpRight m.ok m.off m.on m.p m.q m.od.length
    else if m.k = 2 then (0 ≤ m.cl ∧ m.cl ≤ 3) ∧ m.nr ≠ 0 ∧ OpBlank m.ok m.off m.on m.p m.q m.od.length
    else m.cl = 0 ∧ m.nr = 0 ∧ OpBlank m.ok m.off m.on m.p m.q m.od.length) := Lib.hid (by unfold Msg.CallOk; exact Iff.rfl)
  clear h
  go_enter Tryd.func49, Tryd.ntmps49
  obtain ⟨w2, hw2⟩ : ∃ w2, (w1.alloc (.cells call0.toArray 37)).setRow w1.heap.size m.call.toArray = w2 := ⟨_, rfl⟩
  have HX : Hid (Whole w2 w1.heap.size 37 m.call) := Lib.hid (by rw [← hw2]; exact Whole.row (cs := call0) (heap_alloc_new w1 _))
  have hk12 : Same w1 w2 := by rw [← hw2]; exact ((Keeps.refl (fun _ => False) _).alloc _).setRow _ _ (.inl (Nat.le_refl _))
  have HK2 : Hid (Same w w2) := Lib.hid (HK.out.trans hk12 (fun _ _ e => e))
  have HB2 := Lib.hid (HB.out.keep hk12 (fun e => e))
  have c0 : w2.cell? ⟨w.heap.size, 0, none⟩ = some (.int .i64 m.k) := HB2.out.low 0 _ (by omega) rfl
  have d0 : w2.cell? ⟨w1.heap.size, 0, none⟩ = some (.int .i64 m.cl) := HX.out.cell (i := 0) rfl
  have d1 : w2.cell? ⟨w1.heap.size, 1, none⟩ = some (.int .u64 m.nr) := HX.out.cell (i := 1) rfl
  have HOR : Hid (w2.rangeAt w1.heap.size 2 m.op) := Lib.hid (fun j v hj => HX.out.cell (by
    rw [show m.call = [.int .i64 m.cl, .int .u64 m.nr] ++ m.op from rfl, List.getElem?_append_right (by simp)]
    simpa using hj))
  obtain ⟨b1, hb1⟩ : ∃ b, decide (m.cl = 0 ∧ m.nr = 0 ∧ OpBlank m.ok m.off m.on m.p m.q m.od.length) = b := ⟨_, rfl⟩
  obtain ⟨b2, hb2⟩ : ∃ b, decide (OpBlank m.ok m.off m.on m.p m.q m.od.length) = b := ⟨_, rfl⟩
  have HB1 : Hid (b1 = true ↔ (m.cl = 0 ∧ m.nr = 0 ∧ OpBlank m.ok m.off m.on m.p m.q m.od.length)) := Lib.hid (by rw [← hb1, decide_eq_true_eq])
  have HB2B : Hid (b2 = true ↔ OpBlank m.ok m.off m.on m.p m.q m.od.length) := Lib.hid (by rw [← hb2, decide_eq_true_eq])
  have HBC : Hid (∀ w, Calls Tryd.prog 61 #[.agg m.call.toArray] w fun e w' => e = .returned (.bool b1) ∧ Same w w') := Lib.hid (fun w => hb1 ▸ blankCall_any m.cl m.nr m.ok m.off m.on m.p m.q m.oo m.od.length m.oc w)
  have HBO : Hid (∀ w, Calls Tryd.prog 62 #[.agg m.op.toArray] w fun e w' => e = .returned (.bool b2) ∧ Same w w') := Lib.hid (fun w => hb2 ▸ blankOp_any m.ok m.off m.on m.p m.q m.oo m.od.length m.oc w)
  have HWN : Hid (¬ OpRight m.ok m.off m.on m.p m.q m.od.length → ∀ w, Calls Tryd.prog 34 #[.agg m.op.toArray] w fun e w' => e = .returned (.tuple #[.slice none 0 0, .int .i64 1]) ∧ Same w w') := Lib.hid (fun h w => write_no m.ok m.off m.on m.p m.q m.oo m.od.length m.oc w h)
  have HWY : Hid (OpRight m.ok m.off m.on m.p m.q m.od.length → ∀ w, Bytes w (.slice m.oo m.od.length m.oc) m.od → Calls Tryd.prog 34 #[.agg m.op.toArray] w fun e w' => ∃ v, e = .returned (.tuple #[v, .int .i64 0]) ∧ w'.ownsRow w.heap.size 5 1 v (opBytes m.ok m.off m.on m.p m.q m.od).length (u8s (opBytes m.ok m.off m.on m.p m.q m.od)) ∧ Same w w') := Lib.hid (fun h w hb => write_yes m.ok m.off m.on m.p m.q m.oo m.oc m.od w h hb)
  have HO2 : Hid (Bytes w2 (.slice m.oo m.od.length m.oc) m.od) := Lib.hid (HO.out.same HK2.out)
  clear hb1 hb2
  by_cases k1 : m.k = 1
  case neg =>
    by_cases k2 : m.k = 2
    case neg =>
      have HF : Hid (m.CallOk ↔ (m.cl = 0 ∧ m.nr = 0 ∧ OpBlank m.ok m.off m.on m.p m.q m.od.length)) := Lib.hid (by rw [HC.out, if_neg k1, if_neg k2])
      have e1 : (m.k != 1) = true := by simpa using k1
      have e2 : (m.k != 2) = true := by simpa using k2
      clear k1 k2
      go_wp2_with (first
              | (refine wpList_load_mid (by rfl) 37 _ (by rfl) w.heap.size 39 (by rfl) m.call _ HB.out.callR Tryd.underlying37 rfl (by exact Tryd.sizeCallW) ?_)
              | (refine wpList_store_row (by rfl) 37 _ _ (by rfl) w1.heap.size m.call.toArray (by rfl) (by rfl) 37 call0.toArray (heap_alloc_new w1 _) (by exact Tryd.sizeCallW) rfl m.call_all ?_)
              | (refine wpList_load_row (by rfl) 37 _ (by rfl) w1.heap.size (by rfl) 37 m.call.toArray (0, 0) _ HX.out Tryd.underlying37 rfl (by exact Tryd.sizeCallW) ?_)
              | (refine wpList_load_mid (by rfl) 35 _ (by rfl) w1.heap.size 2 (by rfl) m.op _ HOR.out Tryd.underlying35 rfl (by exact Tryd.sizeOpW) ?_))
      ((with_reducible refine (HBC.out _).mono ?_); rintro e w3 ⟨rfl, hk3⟩)
      have HK3 := Lib.hid (HK2.out.trans hk3 (fun _ _ e => e))
      clear hk3
      go_wp2
      go_ret
      exact ⟨_, rfl, HB1.out.trans HF.out.symm, HK3.out⟩
    have HF : Hid (m.CallOk ↔ ((0 ≤ m.cl ∧ m.cl ≤ 3) ∧ m.nr ≠ 0 ∧ OpBlank m.ok m.off m.on m.p m.q m.od.length)) := Lib.hid (by rw [HC.out, if_neg k1, if_pos k2])
    have e1 : (m.k != 1) = true := by simpa using k1
    have e2 : (m.k != 2) = false := by simpa using k2
    have e3 : (m.k == 2) = true := by simpa using k2
    clear k1 k2
    by_cases q1 : m.cl < 0
    · have HF : Hid (¬ m.CallOk) := Lib.hid (fun h => by have := (HF.out.1 h).1.1; omega)
      go_wp2_with (first
              | (refine wpList_load_mid (by rfl) 37 _ (by rfl) w.heap.size 39 (by rfl) m.call _ HB.out.callR Tryd.underlying37 rfl (by exact Tryd.sizeCallW) ?_)
              | (refine wpList_store_row (by rfl) 37 _ _ (by rfl) w1.heap.size m.call.toArray (by rfl) (by rfl) 37 call0.toArray (heap_alloc_new w1 _) (by exact Tryd.sizeCallW) rfl m.call_all ?_)
              | (refine wpList_load_row (by rfl) 37 _ (by rfl) w1.heap.size (by rfl) 37 m.call.toArray (0, 0) _ HX.out Tryd.underlying37 rfl (by exact Tryd.sizeCallW) ?_)
              | (refine wpList_load_mid (by rfl) 35 _ (by rfl) w1.heap.size 2 (by rfl) m.op _ HOR.out Tryd.underlying35 rfl (by exact Tryd.sizeOpW) ?_))
      go_ret
      exact ⟨_, rfl, by simpa using HF.out, HK2.out⟩
    by_cases q2 : (4 : Int) ≤ m.cl
    · have HF : Hid (¬ m.CallOk) := Lib.hid (fun h => by have := (HF.out.1 h).1.2; omega)
      go_wp2_with (first
              | (refine wpList_load_mid (by rfl) 37 _ (by rfl) w.heap.size 39 (by rfl) m.call _ HB.out.callR Tryd.underlying37 rfl (by exact Tryd.sizeCallW) ?_)
              | (refine wpList_store_row (by rfl) 37 _ _ (by rfl) w1.heap.size m.call.toArray (by rfl) (by rfl) 37 call0.toArray (heap_alloc_new w1 _) (by exact Tryd.sizeCallW) rfl m.call_all ?_)
              | (refine wpList_load_row (by rfl) 37 _ (by rfl) w1.heap.size (by rfl) 37 m.call.toArray (0, 0) _ HX.out Tryd.underlying37 rfl (by exact Tryd.sizeCallW) ?_)
              | (refine wpList_load_mid (by rfl) 35 _ (by rfl) w1.heap.size 2 (by rfl) m.op _ HOR.out Tryd.underlying35 rfl (by exact Tryd.sizeOpW) ?_))
      go_ret
      exact ⟨_, rfl, by simpa using HF.out, HK2.out⟩
    by_cases q3 : m.nr = 0
    · have e4 : ((m.nr : Int) == 0) = true := by simp; omega
      have HF : Hid (¬ m.CallOk) := Lib.hid (fun h => (HF.out.1 h).2.1 q3)
      go_wp2_with (first
              | (refine wpList_load_mid (by rfl) 37 _ (by rfl) w.heap.size 39 (by rfl) m.call _ HB.out.callR Tryd.underlying37 rfl (by exact Tryd.sizeCallW) ?_)
              | (refine wpList_store_row (by rfl) 37 _ _ (by rfl) w1.heap.size m.call.toArray (by rfl) (by rfl) 37 call0.toArray (heap_alloc_new w1 _) (by exact Tryd.sizeCallW) rfl m.call_all ?_)
              | (refine wpList_load_row (by rfl) 37 _ (by rfl) w1.heap.size (by rfl) 37 m.call.toArray (0, 0) _ HX.out Tryd.underlying37 rfl (by exact Tryd.sizeCallW) ?_)
              | (refine wpList_load_mid (by rfl) 35 _ (by rfl) w1.heap.size 2 (by rfl) m.op _ HOR.out Tryd.underlying35 rfl (by exact Tryd.sizeOpW) ?_))
      go_ret
      exact ⟨_, rfl, by simpa using HF.out, HK2.out⟩
    have e4 : ((m.nr : Int) == 0) = false := by simp; omega
    go_wp2_with (first
            | (refine wpList_load_mid (by rfl) 37 _ (by rfl) w.heap.size 39 (by rfl) m.call _ HB.out.callR Tryd.underlying37 rfl (by exact Tryd.sizeCallW) ?_)
            | (refine wpList_store_row (by rfl) 37 _ _ (by rfl) w1.heap.size m.call.toArray (by rfl) (by rfl) 37 call0.toArray (heap_alloc_new w1 _) (by exact Tryd.sizeCallW) rfl m.call_all ?_)
            | (refine wpList_load_row (by rfl) 37 _ (by rfl) w1.heap.size (by rfl) 37 m.call.toArray (0, 0) _ HX.out Tryd.underlying37 rfl (by exact Tryd.sizeCallW) ?_)
            | (refine wpList_load_mid (by rfl) 35 _ (by rfl) w1.heap.size 2 (by rfl) m.op _ HOR.out Tryd.underlying35 rfl (by exact Tryd.sizeOpW) ?_))
    ((with_reducible refine (HBO.out _).mono ?_); rintro e w3 ⟨rfl, hk3⟩)
    have HK3 := Lib.hid (HK2.out.trans hk3 (fun _ _ e => e))
    clear hk3
    go_wp2
    go_ret
    exact ⟨_, rfl, HB2B.out.trans ⟨fun h => HF.out.2 ⟨⟨by omega, by omega⟩, q3, h⟩, fun h => (HF.out.1 h).2.2⟩, HK3.out⟩
  have HF : Hid (m.CallOk ↔ ((0 ≤ m.cl ∧ m.cl ≤ 3) ∧ m.nr ≠ 0 ∧ OpRight m.ok m.off m.on m.p m.q m.od.length)) := Lib.hid (by rw [HC.out, if_pos k1])
  have e1 : (m.k != 1) = false := by simpa using k1
  have e3 : (m.k == 2) = false := by rw [k1]; rfl
  clear k1
  by_cases q1 : m.cl < 0
  · have HF : Hid (¬ m.CallOk) := Lib.hid (fun h => by have := (HF.out.1 h).1.1; omega)
    go_wp2_with (first
            | (refine wpList_load_mid (by rfl) 37 _ (by rfl) w.heap.size 39 (by rfl) m.call _ HB.out.callR Tryd.underlying37 rfl (by exact Tryd.sizeCallW) ?_)
            | (refine wpList_store_row (by rfl) 37 _ _ (by rfl) w1.heap.size m.call.toArray (by rfl) (by rfl) 37 call0.toArray (heap_alloc_new w1 _) (by exact Tryd.sizeCallW) rfl m.call_all ?_)
            | (refine wpList_load_row (by rfl) 37 _ (by rfl) w1.heap.size (by rfl) 37 m.call.toArray (0, 0) _ HX.out Tryd.underlying37 rfl (by exact Tryd.sizeCallW) ?_)
            | (refine wpList_load_mid (by rfl) 35 _ (by rfl) w1.heap.size 2 (by rfl) m.op _ HOR.out Tryd.underlying35 rfl (by exact Tryd.sizeOpW) ?_))
    go_ret
    exact ⟨_, rfl, by simpa using HF.out, HK2.out⟩
  by_cases q2 : (4 : Int) ≤ m.cl
  · have HF : Hid (¬ m.CallOk) := Lib.hid (fun h => by have := (HF.out.1 h).1.2; omega)
    go_wp2_with (first
            | (refine wpList_load_mid (by rfl) 37 _ (by rfl) w.heap.size 39 (by rfl) m.call _ HB.out.callR Tryd.underlying37 rfl (by exact Tryd.sizeCallW) ?_)
            | (refine wpList_store_row (by rfl) 37 _ _ (by rfl) w1.heap.size m.call.toArray (by rfl) (by rfl) 37 call0.toArray (heap_alloc_new w1 _) (by exact Tryd.sizeCallW) rfl m.call_all ?_)
            | (refine wpList_load_row (by rfl) 37 _ (by rfl) w1.heap.size (by rfl) 37 m.call.toArray (0, 0) _ HX.out Tryd.underlying37 rfl (by exact Tryd.sizeCallW) ?_)
            | (refine wpList_load_mid (by rfl) 35 _ (by rfl) w1.heap.size 2 (by rfl) m.op _ HOR.out Tryd.underlying35 rfl (by exact Tryd.sizeOpW) ?_))
    go_ret
    exact ⟨_, rfl, by simpa using HF.out, HK2.out⟩
  by_cases q3 : m.nr = 0
  · have e4 : ((m.nr : Int) == 0) = true := by simp; omega
    have HF : Hid (¬ m.CallOk) := Lib.hid (fun h => (HF.out.1 h).2.1 q3)
    go_wp2_with (first
            | (refine wpList_load_mid (by rfl) 37 _ (by rfl) w.heap.size 39 (by rfl) m.call _ HB.out.callR Tryd.underlying37 rfl (by exact Tryd.sizeCallW) ?_)
            | (refine wpList_store_row (by rfl) 37 _ _ (by rfl) w1.heap.size m.call.toArray (by rfl) (by rfl) 37 call0.toArray (heap_alloc_new w1 _) (by exact Tryd.sizeCallW) rfl m.call_all ?_)
            | (refine wpList_load_row (by rfl) 37 _ (by rfl) w1.heap.size (by rfl) 37 m.call.toArray (0, 0) _ HX.out Tryd.underlying37 rfl (by exact Tryd.sizeCallW) ?_)
            | (refine wpList_load_mid (by rfl) 35 _ (by rfl) w1.heap.size 2 (by rfl) m.op _ HOR.out Tryd.underlying35 rfl (by exact Tryd.sizeOpW) ?_))
    go_ret
    exact ⟨_, rfl, by simpa using HF.out, HK2.out⟩
  have e4 : ((m.nr : Int) == 0) = false := by simp; omega
  by_cases q4 : OpRight m.ok m.off m.on m.p m.q m.od.length
  · have HWY2 := Lib.hid (HWY.out q4 w2 HO2.out)
    have HT : Hid m.CallOk := Lib.hid (HF.out.2 ⟨⟨by omega, by omega⟩, q3, q4⟩)
    go_wp2_with (first
            | (refine wpList_load_mid (by rfl) 37 _ (by rfl) w.heap.size 39 (by rfl) m.call _ HB.out.callR Tryd.underlying37 rfl (by exact Tryd.sizeCallW) ?_)
            | (refine wpList_store_row (by rfl) 37 _ _ (by rfl) w1.heap.size m.call.toArray (by rfl) (by rfl) 37 call0.toArray (heap_alloc_new w1 _) (by exact Tryd.sizeCallW) rfl m.call_all ?_)
            | (refine wpList_load_row (by rfl) 37 _ (by rfl) w1.heap.size (by rfl) 37 m.call.toArray (0, 0) _ HX.out Tryd.underlying37 rfl (by exact Tryd.sizeCallW) ?_)
            | (refine wpList_load_mid (by rfl) 35 _ (by rfl) w1.heap.size 2 (by rfl) m.op _ HOR.out Tryd.underlying35 rfl (by exact Tryd.sizeOpW) ?_))
    ((with_reducible refine (HWY2.out).mono ?_); rintro e w3 ⟨v, rfl, ho3, hk3⟩)
    have HK3 := Lib.hid (HK2.out.trans hk3 (fun _ _ e => e))
    clear hk3
    clear ho3
    go_wp2
    go_ret
    exact ⟨_, rfl, by simpa using HT.out, HK3.out⟩
  · have HWN2 := Lib.hid (HWN.out q4 w2)
    have HT : Hid (¬ m.CallOk) := Lib.hid (fun h => q4 (HF.out.1 h).2.2)
    go_wp2_with (first
            | (refine wpList_load_mid (by rfl) 37 _ (by rfl) w.heap.size 39 (by rfl) m.call _ HB.out.callR Tryd.underlying37 rfl (by exact Tryd.sizeCallW) ?_)
            | (refine wpList_store_row (by rfl) 37 _ _ (by rfl) w1.heap.size m.call.toArray (by rfl) (by rfl) 37 call0.toArray (heap_alloc_new w1 _) (by exact Tryd.sizeCallW) rfl m.call_all ?_)
            | (refine wpList_load_row (by rfl) 37 _ (by rfl) w1.heap.size (by rfl) 37 m.call.toArray (0, 0) _ HX.out Tryd.underlying37 rfl (by exact Tryd.sizeCallW) ?_)
            | (refine wpList_load_mid (by rfl) 35 _ (by rfl) w1.heap.size 2 (by rfl) m.op _ HOR.out Tryd.underlying35 rfl (by exact Tryd.sizeOpW) ?_))
    ((with_reducible refine (HWN2.out).mono ?_); rintro e w3 ⟨rfl, hk3⟩)
    have HK3 := Lib.hid (HK2.out.trans hk3 (fun _ _ e => e))
    clear hk3
    go_wp2
    go_ret
    exact ⟨_, rfl, by simpa using HT.out, HK3.out⟩
end Go.Proofs.YtafgiljgefeefaaDoor
namespace Go.Proofs.YtafgiljgefeefaaDoor
open Go.RowKit
set_option linter.unusedVariables false

set_option maxRecDepth 100000 in
set_option maxHeartbeats 6400000 in
theorem rightAns_any (m : Msg) (w : World) (h : MsgIn w m) : Calls Tryd.prog 50 #[.agg m.cells.toArray] w (BoolPost w m.AnsOk) := by
  have HA := Lib.hid h.ad
  have HS := Lib.hid h.ns
  obtain ⟨w1, hw1⟩ : ∃ w1, w.alloc (.cells m.cells.toArray 45) = w1 := ⟨_, rfl⟩
  have HB : Hid (MsgAt w1 w.heap.size m) := Lib.hid (by rw [← hw1]; exact MsgAt.new w m h.hd)
  have HK : Hid (Same w w1) := Lib.hid (by rw [← hw1]; exact (Keeps.refl _ _).alloc _)
  have HC : Hid (m.AnsOk ↔ if m.k = 2 then AnsRight m.ac m.an m.ad.length m.ns else AnsBlank m.ac m.an m.ad.length m.ns.length) := Lib.hid (by unfold Msg.AnsOk; exact Iff.rfl)
  have c0 : w1.cell? ⟨w.heap.size, 0, none⟩ = some (.int .i64 m.k) := HB.out.low 0 _ (by omega) rfl
  obtain ⟨b1, hb1⟩ : ∃ b, decide (AnsBlank m.ac m.an m.ad.length m.ns.length) = b := ⟨_, rfl⟩
  have HB1 : Hid (b1 = true ↔ AnsBlank m.ac m.an m.ad.length m.ns.length) := Lib.hid (by rw [← hb1, decide_eq_true_eq])
  have HBA : Hid (∀ w, Calls Tryd.prog 63 #[.agg m.ans.toArray] w fun e w' => e = .returned (.bool b1) ∧ Same w w') := Lib.hid (fun w => hb1 ▸ blankAns_any m.ac m.an m.ao m.no m.ad.length m.acap m.ns.length m.ncap w)
  have HAB : Hid (Bytes w1 (.slice m.ao m.ad.length m.acap) m.ad) := Lib.hid (HA.out.same HK.out)
  have HSB : Hid (Strs w1 (.slice m.no m.ns.length m.ncap) m.ns) := Lib.hid (HS.out.same HK.out)
  have HWN : Hid (¬ AnsRight m.ac m.an m.ad.length m.ns → Calls Tryd.prog 35 #[.agg m.ans.toArray] w1 fun e w' => e = .returned (.tuple #[.slice none 0 0, .int .i64 1]) ∧ Same w1 w') := Lib.hid (fun h => writeAnswer_no m.ac m.an m.ao m.no m.ad.length m.acap m.ncap m.ns w1 HSB.out h)
  have HWY : Hid (AnsRight m.ac m.an m.ad.length m.ns → Calls Tryd.prog 35 #[.agg m.ans.toArray] w1 fun e w' => ∃ v, e = .returned (.tuple #[v, .int .i64 0]) ∧ w'.ownsRow w1.heap.size 5 1 v (ansBytes m.ac m.an m.ad m.ns).length (u8s (ansBytes m.ac m.an m.ad m.ns)) ∧ Same w1 w') := Lib.hid (fun h => writeAnswer_yes m.ac m.an m.ao m.no m.acap m.ncap m.ad m.ns w1 HAB.out HSB.out h)
  clear h hb1
  by_cases k2 : m.k = 2
  case neg =>
    have HF : Hid (m.AnsOk ↔ AnsBlank m.ac m.an m.ad.length m.ns.length) := Lib.hid (by rw [HC.out, if_neg k2])
    have e2 : (m.k != 2) = true := by simpa using k2
    clear k2
    go_enter Tryd.func50, Tryd.ntmps50
    go_wp2_with (refine wpList_load_mid (by rfl) 41 _ (by rfl) w.heap.size 47 (by rfl) m.ans _ HB.out.ansR Tryd.underlying41 rfl (by exact Tryd.sizeAnsW) ?_)
    ((with_reducible refine (HBA.out _).mono ?_); rintro e w3 ⟨rfl, hk3⟩)
    have HK3 := Lib.hid (HK.out.trans hk3 (fun _ _ e => e))
    clear hk3
    go_wp2
    go_ret
    exact ⟨_, rfl, HB1.out.trans HF.out.symm, HK3.out⟩
  have HF : Hid (m.AnsOk ↔ AnsRight m.ac m.an m.ad.length m.ns) := Lib.hid (by rw [HC.out, if_pos k2])
  have e2 : (m.k != 2) = false := by simpa using k2
  clear k2
  by_cases q : AnsRight m.ac m.an m.ad.length m.ns
  · have HT : Hid m.AnsOk := Lib.hid (HF.out.2 q)
    have HWY2 := Lib.hid (HWY.out q)
    go_enter Tryd.func50, Tryd.ntmps50
    go_wp2_with (refine wpList_load_mid (by rfl) 41 _ (by rfl) w.heap.size 47 (by rfl) m.ans _ HB.out.ansR Tryd.underlying41 rfl (by exact Tryd.sizeAnsW) ?_)
    ((with_reducible refine (HWY2.out).mono ?_); rintro e w3 ⟨v, rfl, ho3, hk3⟩)
    have HK3 := Lib.hid (HK.out.trans hk3 (fun _ _ e => e))
    clear hk3 ho3
    go_wp2
    go_ret
    exact ⟨_, rfl, by simpa using HT.out, HK3.out⟩
  · have HT : Hid (¬ m.AnsOk) := Lib.hid (fun h => q (HF.out.1 h))
    have HWN2 := Lib.hid (HWN.out q)
    go_enter Tryd.func50, Tryd.ntmps50
    go_wp2_with (refine wpList_load_mid (by rfl) 41 _ (by rfl) w.heap.size 47 (by rfl) m.ans _ HB.out.ansR Tryd.underlying41 rfl (by exact Tryd.sizeAnsW) ?_)
    ((with_reducible refine (HWN2.out).mono ?_); rintro e w3 ⟨rfl, hk3⟩)
    have HK3 := Lib.hid (HK.out.trans hk3 (fun _ _ e => e))
    clear hk3
    go_wp2
    go_ret
    exact ⟨_, rfl, by simpa using HT.out, HK3.out⟩

/-- What Check tells. -/
def CheckPost (w : World) (m : Msg) (e : Ending) (w' : World) : Prop := ∃ r, e = .returned (.int .i64 r) ∧ (r = 0 ∧ m.Right ∨ r = 1 ∧ ¬ m.Right) ∧ Same w w'
theorem CheckPost.no {w w' : World} {m : Msg} (h : ¬ m.Right) (k : Same w w') : CheckPost w m (.returned (.int .i64 1)) w' := ⟨1, rfl, .inr ⟨rfl, h⟩, k⟩
set_option maxRecDepth 100000 in
set_option maxHeartbeats 12800000 in
theorem checkMsg_any (m : Msg) (w : World) (h : MsgIn w m) : Calls Tryd.prog 30 #[.agg m.cells.toArray] w (CheckPost w m) := by
  have HM := Lib.hid h
  obtain ⟨w1, hw1⟩ : ∃ w1, w.alloc (.cells m.cells.toArray 45) = w1 := ⟨_, rfl⟩
  have HB : Hid (MsgAt w1 w.heap.size m) := Lib.hid (by rw [← hw1]; exact MsgAt.new w m h.hd)
  have HK : Hid (Same w w1) := Lib.hid (by rw [← hw1]; exact (Keeps.refl _ _).alloc _)
  have HM1 : Hid (MsgIn w1 m) := Lib.hid (HM.out.same HK.out)
  have HSZ := Lib.hid (Tryd.sizeMsgOf m h.hd)
  have HBW : Hid (w1.heap[w.heap.size]? = some (.cells m.cells.toArray 45 (0, 0))) := Lib.hid HB.out.1
  have c0 : w1.cell? ⟨w.heap.size, 0, none⟩ = some (.int .i64 m.k) := HB.out.low 0 _ (by omega) rfl
  have c1 : w1.cell? ⟨w.heap.size, 1, none⟩ = some (.int .i64 m.f) := HB.out.low 1 _ (by omega) rfl
  have c2 : w1.cell? ⟨w.heap.size, 2, none⟩ = some (.int .i64 m.t) := HB.out.low 2 _ (by omega) rfl
  have HP1 := Lib.hid (isPeer_any m.f w1)
  have HP2 := Lib.hid (isPeer_any m.t w1)
  clear h
  have HNO : Hid (¬ (1 ≤ m.k ∧ m.k ≤ 8) ∨ ¬ (0 ≤ m.f ∧ m.f ≤ 255) ∨ ¬ (0 ≤ m.t ∧ m.t ≤ 255) → ¬ m.Right) := Lib.hid (by
    rintro (h | h | h) hr
    · exact h hr.kind
    · exact h hr.frm
    · exact h hr.to)
  by_cases q1 : m.k < 1
  · have HF := Lib.hid (HNO.out (.inl (by omega)))
    go_enter Tryd.func30, Tryd.ntmps30
    go_wp2
    go_ret
    exact CheckPost.no HF.out HK.out
  by_cases q2 : (8 : Int) < m.k
  · have HF := Lib.hid (HNO.out (.inl (by omega)))
    go_enter Tryd.func30, Tryd.ntmps30
    go_wp2
    go_ret
    exact CheckPost.no HF.out HK.out
  by_cases q3 : 0 ≤ m.f ∧ m.f ≤ 255
  case neg =>
    have HF := Lib.hid (HNO.out (.inr (.inl q3)))
    rw [decide_eq_false q3] at HP1
    clear q3
    go_enter Tryd.func30, Tryd.ntmps30
    go_wp2_with fail
    ((with_reducible refine (HP1.out).mono ?_); rintro e w2 ⟨rfl, rfl⟩)
    go_wp2
    go_ret
    exact CheckPost.no HF.out HK.out
  rw [decide_eq_true q3] at HP1
  by_cases q4 : 0 ≤ m.t ∧ m.t ≤ 255
  case neg =>
    have HF := Lib.hid (HNO.out (.inr (.inr q4)))
    rw [decide_eq_false q4] at HP2
    clear q3 q4
    go_enter Tryd.func30, Tryd.ntmps30
    go_wp2_with fail
    ((with_reducible refine (HP1.out).mono ?_); rintro e w2 ⟨rfl, rfl⟩)
    go_wp2_with fail
    ((with_reducible refine (HP2.out).mono ?_); rintro e w3 ⟨rfl, rfl⟩)
    go_wp2
    go_ret
    exact CheckPost.no HF.out HK.out
  rw [decide_eq_true q4] at HP2
  have HH : Hid ((1 ≤ m.k ∧ m.k ≤ 8) ∧ (0 ≤ m.f ∧ m.f ≤ 255) ∧ (0 ≤ m.t ∧ m.t ≤ 255)) := Lib.hid ⟨by omega, q3, q4⟩
  clear q3 q4
  have HRC := Lib.hid (rightCall_any m w1 HM1.out)
  unfold BoolPost at HRC
  go_enter Tryd.func30, Tryd.ntmps30
  go_wp2_with fail
  ((with_reducible refine (HP1.out).mono ?_); rintro e w2 ⟨rfl, rfl⟩)
  go_wp2_with fail
  ((with_reducible refine (HP2.out).mono ?_); rintro e w3 ⟨rfl, rfl⟩)
  go_wp2_with (refine wpList_load_row (by rfl) 45 _ (by rfl) w.heap.size (by rfl) 45 m.cells.toArray (0, 0) _ HBW.out Tryd.underlying45 rfl HSZ.out ?_)
  ((with_reducible refine (HRC.out).mono ?_); rintro e w2 ⟨b1, rfl, hb1, hk2⟩)
  have HB1 := Lib.hid hb1
  have HK2 := Lib.hid (HK.out.trans hk2 (fun _ _ e => e))
  have HAT2 := Lib.hid (HB.out.keep hk2 (fun e => e))
  have HM2 := Lib.hid (HM1.out.same hk2)
  clear hb1 hk2
  cases b1 with
  | false =>
    have HF : Hid (¬ m.Right) := Lib.hid (fun hr => by have := HB1.out.2 hr.call; simp at this)
    go_wp2
    go_ret
    exact CheckPost.no HF.out HK2.out
  | true =>
  have HCO : Hid m.CallOk := Lib.hid (HB1.out.1 rfl)
  have HBW2 : Hid (w2.heap[w.heap.size]? = some (.cells m.cells.toArray 45 (0, 0))) := Lib.hid HAT2.out.1
  have HRA := Lib.hid (rightAns_any m w2 HM2.out)
  unfold BoolPost at HRA
  go_wp2_with (refine wpList_load_row_w (by rfl) 45 _ (by rfl) w.heap.size (by rfl) 45 m.cells.toArray (0, 0) _ HBW2.out Tryd.underlying45 rfl HSZ.out ?_)
  ((with_reducible refine (HRA.out).mono ?_); rintro e w3 ⟨b1, rfl, hb1, hk2⟩)
  have HB2 := Lib.hid hb1
  have HK3 := Lib.hid (HK2.out.trans hk2 (fun _ _ e => e))
  have HAT3 := Lib.hid (HAT2.out.keep hk2 (fun e => e))
  have HM3 := Lib.hid (HM2.out.same hk2)
  clear hb1 hk2
  cases b1 with
  | false =>
    have HF : Hid (¬ m.Right) := Lib.hid (fun hr => by have := HB2.out.2 hr.ans; simp at this)
    go_wp2
    go_ret
    exact CheckPost.no HF.out HK3.out
  | true =>
  have HAO : Hid m.AnsOk := Lib.hid (HB2.out.1 rfl)
  have c51 : w3.cell? ⟨w.heap.size, 51, none⟩ = some (.slice m.ho m.hs.length m.hcap) := HAT3.out.high 12 51 _ rfl rfl
  have c52 : w3.cell? ⟨w.heap.size, 52, none⟩ = some (.slice m.bo m.bs.length m.bcap) := HAT3.out.high 13 52 _ rfl rfl
  by_cases q5 : (16 : Int) < (m.hs.length : Int)
  · have HF : Hid (¬ m.Right) := Lib.hid (fun hr => by have := hr.hs; omega)
    go_wp2
    go_ret
    exact CheckPost.no HF.out HK3.out
  by_cases q6 : (64 : Int) < (m.bs.length : Int)
  · have HF : Hid (¬ m.Right) := Lib.hid (fun hr => by have := hr.bs; omega)
    go_wp2
    go_ret
    exact CheckPost.no HF.out HK3.out
  have HL : Hid (m.hs.length ≤ 16 ∧ m.bs.length ≤ 64) := Lib.hid (by omega)
  have HROW : Hid (Rows2 w3 (.slice m.bo m.bs.length m.bcap) m.bs) := Lib.hid HM3.out.bs
  obtain ⟨n, hn⟩ : ∃ n, m.bs.length = n := ⟨_, rfl⟩
  have HN := Lib.hid hn
  rw [hn] at c52 q6 HROW
  obtain ⟨bo, hbo⟩ : ∃ bo, m.bo = bo := ⟨_, rfl⟩
  rw [hbo] at c52 HROW
  clear hbo
  have hn64 : n ≤ 64 := by omega
  clear hn
  go_wp2
  go_loopw [46] (fun i wr => wr = w3 ∧ ∃ j : Nat, j ≤ n ∧ i = .int .i64 j ∧ Hid (∀ b ∈ m.bs.take j, b.2.length ≤ 470)) (fun i _ => n - (intOf i).toNat)
  case atStart => exact ⟨rfl, 0, by omega, rfl, Lib.hid (fun b h => by simp at h)⟩
  case round =>
    obtain ⟨rfl, j, hj, rfl, HT⟩ := hrel
    by_cases hlt : j < n
    · have hjl : j < m.bs.length := by rw [HN.out]; exact hlt
      obtain ⟨a, xo, xc, rfl, hx, hc, -⟩ := HROW.out.at hjl
      have HGE : Hid (m.bs[j]? = some m.bs[j]) := Lib.hid (List.getElem?_eq_getElem hjl)
      have HX := Lib.hid hx
      generalize m.bs[j] = r at hc HGE HX
      obtain ⟨rv, rl⟩ := r
      simp only at hc
      have hjn : (j : Int) < (n : Int) := by omega
      obtain ⟨k, hk⟩ : ∃ k, rl.length = k := ⟨_, rfl⟩
      have HRL := Lib.hid hk
      simp only [hk] at hc
      have HMEM : Hid (m.bs.take (j + 1) = m.bs.take j ++ [(rv, rl)]) := Lib.hid (by rw [List.take_add_one, HGE.out]; rfl)
      have HIN : Hid ((rv, rl) ∈ m.bs) := Lib.hid (List.mem_of_getElem? HGE.out)
      clear hjl hk hx
      by_cases hb : (470 : Int) < (k : Int)
      · have HF : Hid (¬ m.Right) := Lib.hid (fun hr => by have := hr.each _ HIN.out; have h2 := HRL.out; simp only at this; omega)
        go_wp2
        go_ret
        exact CheckPost.no HF.out HK3.out
      · go_wp2
        go_roundw
        case rel => exact ⟨by trivial, j + 1, by omega, by go_num, Lib.hid (by
          rw [HMEM.out]
          intro b hbm
          rcases List.mem_append.1 hbm with h | h
          · exact HT.out b h
          · simp only [List.mem_singleton] at h; subst h; have := HRL.out; simp only; omega)⟩
        case measure => simp [intOf]; omega
    · obtain rfl : j = n := by omega
      have hjn : ¬ (j : Int) < (j : Int) := by omega
      have HR : Hid m.Right := Lib.hid ⟨HH.out.1, HH.out.2.1, HH.out.2.2, HCO.out, HAO.out, HL.out.1, HL.out.2, by
        have := HT.out
        rwa [List.take_of_length_le (by rw [HN.out]; exact Nat.le_refl _)] at this⟩
      go_wp2
      go_ret
      exact ⟨0, rfl, .inl ⟨rfl, HR.out⟩, HK3.out⟩
end Go.Proofs.YtafgiljgefeefaaDoor
namespace Go.Proofs.YtafgiljgefeefaaDoor
open Go.RowKit
set_option linter.unusedVariables false

/-- Block B is a pen made since w0; the blocks of F, which are not its own, are as they were in wa. -/
structure PenG (w0 wa w : World) (F : Nat → Prop) (B : Nat) (bs : List UInt8) : Prop where
  ex : ∃ base row, Pen 75 5 w B base row bs ∧ ∀ j, row = some j → ¬ F j
  same : Same w0 w
  new : w0.heap.size ≤ B
  apart : ¬ F B
  far : Keeps (fun k => ¬ F k) wa w
  lt : ∀ k, F k → k < wa.heap.size
theorem PenG.toW {w0 wa w : World} {F : Nat → Prop} {B : Nat} {bs : List UInt8} (h : PenG w0 wa w F B bs) : PenW w0 w B bs := by
  obtain ⟨base, row, hp, _⟩ := h.ex
  exact ⟨⟨base, row, hp⟩, h.same, h.new⟩
theorem PenW.toG {w0 w wa : World} {B : Nat} {bs : List UInt8} (h : PenW w0 w B bs) (k : Same w wa) : PenG w0 wa wa (fun j => w.heap.size ≤ j ∧ j < wa.heap.size) B bs := by
  obtain ⟨base, row, hp⟩ := h.ex
  refine ⟨⟨base, row, hp.keeps k (fun e => e) (fun _ _ e => e), fun j e hf => ?_⟩, h.same.trans k (fun _ _ e => e), h.new, fun hf => ?_, Keeps.refl _ _, fun k hk => hk.2⟩
  · have := (hp.row_lt j e).2; omega
  · have := hp.lt; have := hp.hb; omega
theorem PenG.stepOf {w0 wa w w' : World} {F : Nat → Prop} {B base : Nat} {row : Option Nat} {bs more : List UInt8} (h : PenG w0 wa w F B bs) (hp : Pen 75 5 w B base row bs) (hr : ∀ j, row = some j → ¬ F j)
    (hs : Step 75 5 w w' B base row bs more) : PenG w0 wa w' F B (bs ++ more) := by
  have hw := PenW.step hp h.same h.new hs
  obtain ⟨row', hp', hk', hm'⟩ := hs.ex
  refine ⟨⟨base, row', hp', fun j e hf => ?_⟩, hw.same, h.new, h.apart, h.far.trans hk' (fun j hj e hf => ?_), h.lt⟩
  · rcases hm' with rfl | ⟨g, rfl, hg⟩
    · exact hr j e hf
    · simp only [Option.some.injEq] at e
      have := h.lt j hf
      have := h.far.size
      omega
  · rcases e with e | e
    · subst e; exact h.apart hf
    · exact hr j e hf
theorem PenG.keep {w0 wa w w' : World} {F : Nat → Prop} {B : Nat} {bs : List UInt8} (h : PenG w0 wa w F B bs) (k : Same w w') : PenG w0 wa w' F B bs := by
  obtain ⟨base, row, hp, hr⟩ := h.ex
  exact ⟨⟨base, row, hp.keeps k (fun e => e) (fun _ _ e => e), hr⟩, h.same.trans k (fun _ _ e => e), h.new, h.apart, h.far.trans k (fun _ _ e => e.elim), h.lt⟩
theorem uint_g {w0 wa : World} {F : Nat → Prop} (B : Nat) (bs : List UInt8) (n size : Nat) (N S : Int) (w : World) (h : PenG w0 wa w F B bs) (hl : bs.length + 8 ≤ 140737488351232) (h1 : 1 ≤ size) (h2 : size ≤ 8) (hn : n < 256 ^ size) (hN : N = (n : Int)) (hS : S = (size : Int)) :
    Calls Tryd.prog 31 #[.pointer (some ⟨B, 0, none⟩), .int .u64 N, .int .i64 S] w fun e w' => e = .returned (.int .i64 0) ∧ PenG w0 wa w' F B (bs ++ be n size) := by
  obtain ⟨base, row, hp, hr⟩ := h.ex
  exact (uint_ok' B base row bs n size N S w hp hl h1 h2 hn hN hS).mono fun e w' ⟨he, hs⟩ => ⟨he, h.stepOf hp hr hs⟩
/-- A slice of bytes that a pen may write: of the world ahead, or of the blocks that it leaves alone. -/
def Beside (wa : World) (F : Nat → Prop) (x : Value) (bs : List UInt8) : Prop := Bytes wa x bs ∧ ∀ a n c, x = .slice (some a) n c → bs ≠ [] → F a.block
theorem text_g {w0 wa : World} {F : Nat → Prop} (B : Nat) (bs more : List UInt8) (x : Value) (w : World) (h : PenG w0 wa w F B bs) (hx : Beside wa F x more) (hm : more.length ≤ 65535) (hl : bs.length + more.length + 8 ≤ 140737488351232) :
    Calls Tryd.prog 36 #[.pointer (some ⟨B, 0, none⟩), x] w fun e w' => e = .returned (.int .i64 0) ∧ PenG w0 wa w' F B (bs ++ (be more.length 2 ++ more)) := by
  obtain ⟨base, row, hp, hr⟩ := h.ex
  have hb : Bytes w x more := by
    by_cases h0 : more = []
    · subst h0
      obtain ⟨ao, c, rfl⟩ := hx.1.form
      exact Bytes.nil _ _ _
    · exact hx.1.keeps h.far (fun a n c e hne => hne (hx.2 a n c e h0))
  refine (text_ok B base row bs more x w hp hb hm (fun a m d e h0 => ?_) hl).mono fun e w' ⟨he, hs⟩ => ⟨he, h.stepOf hp hr hs⟩
  have hf := hx.2 a m d e h0
  exact ⟨fun e2 => h.apart (e2 ▸ hf), fun e2 => hr _ e2 hf⟩
theorem Beside.nil (wa : World) (F : Nat → Prop) : Beside wa F (.slice none 0 0) [] := ⟨Bytes.nil _ _ _, fun a n c e h => absurd rfl h⟩
theorem Beside.own {w wa : World} {e : TypeId} {v : Value} {n : Nat} {bs : List UInt8} (h : wa.ownsRow w.heap.size e 1 v n (u8s bs)) (hn : bs.length = n) : Beside wa (fun j => w.heap.size ≤ j ∧ j < wa.heap.size) v bs := by
  refine ⟨Bytes.of_own' h hn, fun a m c e hne => ?_⟩
  rcases h.2 with ⟨rfl, h0⟩ | ⟨g, cap, cur, rfl, _, _⟩
  · cases e
  · simp only [Value.slice.injEq, Option.some.injEq] at e
    obtain ⟨rfl, _, _⟩ := e
    have := h.lt g rfl
    exact this

def ptrs4 (B : Nat) : List Value := [.pointer (some ⟨B, 3, none⟩), .pointer (some ⟨B, 4, none⟩), .pointer (some ⟨B, 5, none⟩), .pointer (some ⟨B, 6, none⟩)]
theorem ptrs4_get (B k : Nat) (h : k < 4) : (ptrs4 B)[k]? = some (.pointer (some ⟨B, 3 + k, none⟩)) := by
  match k, h with
  | 0, _ => rfl
  | 1, _ => rfl
  | 2, _ => rfl
  | 3, _ => rfl
set_option maxRecDepth 100000 in
set_option maxHeartbeats 3200000 in
theorem numbersW_any (B : Nat) (w : World) :
    Calls Tryd.prog 32 #[.pointer (some ⟨B, 0, none⟩)] w fun e w' => ∃ R, e = .returned (.slice (some ⟨R, 0, none⟩) 4 4) ∧ Whole w' R 80 (ptrs4 B) ∧ Same w w' ∧ w.heap.size ≤ R := by
  go_enter Tryd.func32, Tryd.ntmps32
  go_wp2
  go_region
  go_wp2
  go_ret
  exact ⟨w.heap.size, rfl, heap_alloc_new w _, ((Keeps.refl _ _).alloc _).drew, Nat.le_refl _⟩

def Msg.four (m : Msg) : List Nat := [3, m.k.toNat, m.f.toNat, m.t.toNat]
def Msg.eight (m : Msg) : List Nat := [m.v, m.n, m.g, m.c]
def flatN (l : List Nat) (s k : Nat) : List UInt8 := (l.take k).flatMap fun n => be n s
theorem flatN_succ (l : List Nat) (s k : Nat) (h : k < l.length) : flatN l s k ++ be (l.getD k 0) s = flatN l s (k + 1) := by
  unfold flatN
  rw [List.take_add_one, List.getElem?_eq_getElem h, List.flatMap_append]
  simp [List.getD, List.getElem?_eq_getElem h]
theorem flatN_length (l : List Nat) (s k : Nat) (h : k ≤ l.length) : (flatN l s k).length = s * k := by
  unfold flatN
  rw [List.length_flatMap]
  have : ((l.take k).map fun n => (be n s).length) = List.replicate k s := by
    apply List.ext_getElem
    · simp; omega
    · intro i h1 h2; simp [be_length]
  rw [this]
  simp [Nat.mul_comm]
def Msg.opB (m : Msg) : List UInt8 := if m.k = 1 then opBytes m.ok m.off m.on m.p m.q m.od else []
def Msg.ansB (m : Msg) : List UInt8 := if m.k = 2 then ansBytes m.ac m.an m.ad m.ns else []
def txt (b : List UInt8) : List UInt8 := be b.length 2 ++ b
def txts (l : List (List UInt8)) : List UInt8 := l.flatMap txt
/-- A message's bytes ahead of the hashes. -/
def Msg.headB (m : Msg) : List UInt8 := flatN m.four 1 4 ++ flatN m.eight 8 4 ++ m.hd ++ be m.cl.toNat 1 ++ be m.nr 8
def Msg.frontB (m : Msg) : List UInt8 := m.headB ++ txt m.opB ++ txt m.ansB
def Msg.bodyB (m : Msg) : List UInt8 := m.frontB ++ be m.hs.length 1 ++ m.hs.flatten ++ be m.bs.length 1 ++ txts (m.bs.map (·.2))
def Msg.bytes (m : Msg) : List UInt8 := m.bodyB ++ (shaOf m.bodyB).take 8
theorem Msg.headB_length (m : Msg) (h : m.hd.length = 32) : m.headB.length = 77 := by
  unfold Msg.headB
  simp only [List.length_append, be_length, flatN_length m.four 1 4 (by simp [Msg.four]), flatN_length m.eight 8 4 (by simp [Msg.eight]), h]
theorem Msg.Right.clr {m : Msg} (h : m.Right) : 0 ≤ m.cl ∧ m.cl ≤ 3 := by
  have := h.call
  unfold Msg.CallOk at this
  split at this
  · exact this.1
  · split at this
    · exact this.1
    · omega
theorem Msg.Right.opOk {m : Msg} (h : m.Right) (hk : m.k = 1) : OpRight m.ok m.off m.on m.p m.q m.od.length := by
  have := h.call
  unfold Msg.CallOk at this
  rw [if_pos hk] at this
  exact this.2.2
theorem Msg.Right.ansR {m : Msg} (h : m.Right) (hk : m.k = 2) : AnsRight m.ac m.an m.ad.length m.ns := by
  have := h.ans
  unfold Msg.AnsOk at this
  rwa [if_pos hk] at this
theorem Msg.Right.op_len {m : Msg} (h : m.Right) : m.opB.length ≤ 139 := by
  unfold Msg.opB
  split
  · rename_i hk
    obtain ⟨_, _, h3, h4, _, _, h7⟩ := h.opOk hk
    rw [opBytes_length]; omega
  · simp
theorem Msg.Right.ans_len {m : Msg} (h : m.Right) : m.ansB.length ≤ 131 := by
  unfold Msg.ansB
  split
  · rename_i hk
    obtain ⟨_, _, h3, h4, h5⟩ := h.ansR hk
    have := texts_length m.ns h5
    rw [ansBytes, List.length_append, ansHead_length]; omega
  · simp
theorem flat32 : ∀ (l : List (List UInt8)), (∀ h ∈ l, h.length = 32) → l.flatten.length = 32 * l.length
  | [], _ => rfl
  | x :: r, h => by
    rw [List.flatten_cons, List.length_append, h x (by simp), flat32 r (fun y hy => h y (by simp [hy])), List.length_cons]; omega
theorem txts_len : ∀ (l : List (List UInt8)), (∀ b ∈ l, b.length ≤ 470) → (txts l).length ≤ 472 * l.length
  | [], _ => by simp [txts]
  | x :: r, h => by
    have h1 := h x (by simp)
    have h2 := txts_len r (fun y hy => h y (by simp [hy]))
    simp only [txts, txt, List.flatMap_cons, List.length_append, be_length, List.length_cons] at h2 ⊢
    omega
theorem Msg.Right.front_len {m : Msg} (h : m.Right) (hd : m.hd.length = 32) : m.frontB.length ≤ 351 := by
  have h1 := m.headB_length hd
  have h2 := h.op_len
  have h3 := h.ans_len
  unfold Msg.frontB txt
  simp only [List.length_append, be_length, h1]
  omega
end Go.Proofs.YtafgiljgefeefaaDoor
namespace Go.Proofs.YtafgiljgefeefaaDoor
open Go.RowKit
set_option linter.unusedVariables false

/-- What Write does. -/
def WirePost (w : World) (m : Msg) (e : Ending) (w' : World) : Prop :=
  Same w w' ∧ ((m.Right ∧ ∃ v, e = .returned (.tuple #[v, .int .i64 0]) ∧ w'.ownsRow w.heap.size 5 1 v m.bytes.length (u8s m.bytes)) ∨ (¬ m.Right ∧ e = .returned (.tuple #[.slice none 0 0, .int .i64 1])))
def Msg.ints (m : Msg) : List Value := [.int .i64 3, .int .i64 m.k, .int .i64 m.f, .int .i64 m.t]
theorem Msg.ints_at (m : Msg) (h : m.Right) (j : Nat) (hj : j < 4) : m.ints[j]? = some (.int .i64 ((m.four.getD j 0 : Nat) : Int)) ∧ m.four.getD j 0 < 256 := by
  have h1 := h.kind
  have h2 := h.frm
  have h3 := h.to
  match j, hj with
  | 0, _ => exact ⟨rfl, by show (3 : Nat) < 256; omega⟩
  | 1, _ => exact ⟨by show some (Value.int .i64 m.k) = some (Value.int .i64 ((m.k.toNat : Nat) : Int)); rw [Int.toNat_of_nonneg (by omega)], by show m.k.toNat < 256; omega⟩
  | 2, _ => exact ⟨by show some (Value.int .i64 m.f) = some (Value.int .i64 ((m.f.toNat : Nat) : Int)); rw [Int.toNat_of_nonneg (by omega)], by show m.f.toNat < 256; omega⟩
  | 3, _ => exact ⟨by show some (Value.int .i64 m.t) = some (Value.int .i64 ((m.t.toNat : Nat) : Int)); rw [Int.toNat_of_nonneg (by omega)], by show m.t.toNat < 256; omega⟩
theorem Msg.nums_at (m : Msg) (j : Nat) (hj : j < 4) (hn : m.v < 18446744073709551616 ∧ m.n < 18446744073709551616 ∧ m.g < 18446744073709551616 ∧ m.c < 18446744073709551616 ∧ m.nr < 18446744073709551616) : m.nums[3 + j]? = some (.int .u64 ((m.eight.getD j 0 : Nat) : Int)) ∧ m.eight.getD j 0 < 256 ^ 8 := by
  have e : (256 : Nat) ^ 8 = 18446744073709551616 := by decide
  rw [e]
  match j, hj with
  | 0, _ => exact ⟨rfl, hn.1⟩
  | 1, _ => exact ⟨rfl, hn.2.1⟩
  | 2, _ => exact ⟨rfl, hn.2.2.1⟩
  | 3, _ => exact ⟨rfl, hn.2.2.2.1⟩
theorem MsgAt.hdB {w : World} {B : Nat} {m : Msg} (h : MsgAt w B m) (c : Nat) : Bytes w (.slice (some ⟨B, 7, none⟩) 32 c) m.hd := by
  rw [← h.2]
  exact .inl ⟨_, c, rfl, fun j u hu => by rw [add_at]; exact h.hdR j u hu⟩
theorem cell_same {w w' : World} {p : Addr} {v : Value} (h : w.cell? p = some v) (k : Same w w') : w'.cell? p = some v := by
  rw [World.cell?_of_block (w := w) (k.block _ (World.block_lt_of_cell? w _ h) (fun e => e))]; exact h
theorem flat_take (l : List (List UInt8)) (j : Nat) (h : j < l.length) : (l.take j).flatten ++ l[j] = (l.take (j + 1)).flatten := by
  rw [List.take_add_one, List.getElem?_eq_getElem h, List.flatten_append]; simp
theorem flat32_take (l : List (List UInt8)) (h : ∀ x ∈ l, x.length = 32) (j : Nat) (hj : j ≤ l.length) : (l.take j).flatten.length = 32 * j := by
  rw [flat32 _ (fun x hx => h x (List.mem_of_mem_take hx)), List.length_take, Nat.min_eq_left hj]
theorem txts_take (l : List (List UInt8)) (j : Nat) (h : j < l.length) : txts (l.take j) ++ (be l[j].length 2 ++ l[j]) = txts (l.take (j + 1)) := by
  unfold txts
  rw [List.take_add_one, List.getElem?_eq_getElem h, List.flatMap_append]; simp [txt]
theorem txts_take_len (l : List (List UInt8)) (h : ∀ b ∈ l, b.length ≤ 470) (j : Nat) (hj : j ≤ 64) : (txts (l.take j)).length ≤ 30208 := by
  have := txts_len (l.take j) (fun b hb => h b (List.mem_of_mem_take hb))
  rw [List.length_take] at this
  omega

set_option maxRecDepth 100000 in
set_option maxHeartbeats 25600000 in
theorem wireWrite_any (m : Msg) (w : World) (h : MsgIn w m) (hN : Nums w) : Calls Tryd.prog 26 #[.agg m.cells.toArray] w (WirePost w m) := by
  have hz32 := Tryd.zero32
  have HM := Lib.hid h
  have HNUM := Lib.hid hN
  obtain ⟨w1, hw1⟩ : ∃ w1, w.alloc (.cells m.cells.toArray 45) = w1 := ⟨_, rfl⟩
  have HB : Hid (MsgAt w1 w.heap.size m) := Lib.hid (by rw [← hw1]; exact MsgAt.new w m h.hd)
  have HK : Hid (Same w w1) := Lib.hid (by rw [← hw1]; exact (Keeps.refl _ _).alloc _)
  have HM1 : Hid (MsgIn w1 m) := Lib.hid (HM.out.same HK.out)
  have HSZ := Lib.hid (Tryd.sizeMsgOf m h.hd)
  have HBW : Hid (w1.heap[w.heap.size]? = some (.cells m.cells.toArray 45 (0, 0))) := Lib.hid HB.out.1
  have HCK := Lib.hid (checkMsg_any m w1 HM1.out)
  unfold CheckPost at HCK
  clear h hN
  go_enter Tryd.func26, Tryd.ntmps26
  go_wp2_with (refine wpList_load_row (by rfl) 45 _ (by rfl) w.heap.size (by rfl) 45 m.cells.toArray (0, 0) _ HBW.out Tryd.underlying45 rfl HSZ.out ?_)
  ((with_reducible refine (HCK.out).mono ?_); rintro e w2 ⟨r, rfl, hr, hk2⟩)
  have HK2 := Lib.hid (HK.out.trans hk2 (fun _ _ e => e))
  have HB2 := Lib.hid (HB.out.keep hk2 (fun e => e))
  have HM2 := Lib.hid (HM1.out.same hk2)
  clear hk2 HB HBW HM1 HCK hw1
  rcases hr with ⟨rfl, hR⟩ | ⟨rfl, hR⟩
  case inr =>
    have HR := Lib.hid hR
    clear hR
    go_wp2
    go_ret2
    exact ⟨HK2.out, .inr ⟨HR.out, rfl⟩⟩
  have HR := Lib.hid hR
  clear hR
  obtain ⟨wp, hwp⟩ : ∃ wp, w2.alloc (.cells #[.slice none 0 0] 75) = wp := ⟨_, rfl⟩
  obtain ⟨wi, hwi⟩ : ∃ wi, wp.alloc (.cells #[.int .i64 3, .int .i64 m.k, .int .i64 m.f, .int .i64 m.t] 3) = wi := ⟨_, rfl⟩
  have HPW : Hid (PenW w2 wp w2.heap.size []) := Lib.hid (by rw [← hwp]; exact PenW.mk' w2)
  have HKI : Hid (Same wp wi) := Lib.hid (by rw [← hwi]; exact (Keeps.refl _ _).alloc _)
  have HINT : Hid (Whole wi wp.heap.size 3 m.ints) := Lib.hid (by rw [← hwi]; exact heap_alloc_new wp _)
  have HBP : Hid (MsgAt wp w.heap.size m) := Lib.hid (HB2.out.keep HPW.out.same (fun e => e))
  have HG := Lib.hid (HPW.out.toG HKI.out)
  have HIL : Hid (wp.heap.size < wi.heap.size) := Lib.hid HINT.out.lt
  have c0 : wp.cell? ⟨w.heap.size, 0, none⟩ = some (.int .i64 m.k) := HBP.out.low 0 _ (by omega) rfl
  have c1 : wp.cell? ⟨w.heap.size, 1, none⟩ = some (.int .i64 m.f) := HBP.out.low 1 _ (by omega) rfl
  have c2 : wp.cell? ⟨w.heap.size, 2, none⟩ = some (.int .i64 m.t) := HBP.out.low 2 _ (by omega) rfl
  go_wp2
  clear c0 c1 c2 hwp hwi
  go_loopw [32] (fun i wr => ∃ j : Nat, j ≤ 4 ∧ i = .int .i64 j ∧ Hid (PenG w2 wi wr (fun j => wp.heap.size ≤ j ∧ j < wi.heap.size) w2.heap.size (flatN m.four 1 j))) (fun i _ => 4 - (intOf i).toNat)
  case atStart => exact ⟨0, by omega, rfl, HG⟩
  case round =>
    obtain ⟨j, hj, rfl, HP⟩ := hrel
    by_cases hlt : j < 4
    · have HI2 : Hid (Whole wr wp.heap.size 3 m.ints) := Lib.hid (HINT.out.keep HP.out.far (fun e => e ⟨Nat.le_refl _, HIL.out⟩))
      obtain ⟨hx1, hx2⟩ := m.ints_at HR.out j hlt
      have hc := HI2.out.cell hx1
      have HX2 := Lib.hid hx2
      have HSU := Lib.hid (flatN_succ m.four 1 j (by simpa [Msg.four] using hlt))
      have HLN := Lib.hid (flatN_length m.four 1 j (by simpa [Msg.four] using hj))
      generalize m.four.getD j 0 = x at hc HX2 HSU
      have hu : IntKind.u64.wrap (x : Int) = x := IntWalk.u64_in (x : Int) (by have := HX2.out; omega)
      have hj4 : (j : Int) < 4 := by omega
      have hj0 : (0 : Int) ≤ (j : Int) := by omega
      clear hx1 hx2
      go_wp2_with fail
      ((with_reducible refine (uint_g w2.heap.size _ x 1 _ _ _ HP.out (by rw [HLN.out]; omega) (by omega) (by omega) (by have := HX2.out; omega) (by omega) (by omega)).mono ?_); rintro e w4 ⟨rfl, hp4⟩)
      have HP4 := Lib.hid hp4
      rw [HSU.out] at HP4
      clear hp4 hc
      go_wp2
      go_roundw
      case rel => exact ⟨j + 1, by omega, by go_num, HP4⟩
      case measure => simp [intOf]; omega
    · obtain rfl : j = 4 := by omega
      have HPA := Lib.hid HP.out.toW
      clear HP HG HINT
      go_wp2_with fail
      ((with_reducible refine (numbersW_any w.heap.size _).mono ?_); rintro e w5 ⟨R, rfl, hr5, hk5, hR5⟩)
      have HR5 := Lib.hid hr5
      have HG5 := Lib.hid (HPA.out.toG hk5)
      have HRF : Hid (wr.heap.size ≤ R ∧ R < w5.heap.size) := Lib.hid ⟨hR5, hr5.lt⟩
      obtain ⟨wq, rfl⟩ : ∃ wq : World, wq = wr := ⟨_, rfl⟩
      have HL1 := Lib.hid (flatN_length m.four 1 4 (by simp [Msg.four]))
      obtain ⟨P1, hP1⟩ : ∃ P1, flatN m.four 1 4 = P1 := ⟨_, rfl⟩
      rw [hP1] at HG5 HL1
      have HP1 := Lib.hid hP1
      clear hr5 hk5 hR5 HPA hP1
      go_wp2
      go_loopw [43] (fun i wx => ∃ j : Nat, j ≤ 4 ∧ i = .int .i64 j ∧ Hid (PenG w2 w5 wx (fun j => wq.heap.size ≤ j ∧ j < w5.heap.size) w2.heap.size (P1 ++ flatN m.eight 8 j))) (fun i _ => 4 - (intOf i).toNat)
      case atStart => exact ⟨0, by omega, rfl, Lib.hid (by have := HG5.out; simpa [flatN] using this)⟩
      case round =>
        obtain ⟨j, hj, rfl, HP⟩ := hrel
        by_cases hlt : j < 4
        · have HR6 : Hid (Whole wr R 80 (ptrs4 w.heap.size)) := Lib.hid (HR5.out.keep HP.out.far (fun e => e HRF.out))
          have HB6 : Hid (MsgAt wr w.heap.size m) := Lib.hid (HB2.out.keep HP.out.same (fun e => e))
          obtain ⟨hx1, hx2⟩ := m.nums_at j hlt HM2.out.nm
          have hc := HR6.out.cell (ptrs4_get w.heap.size j hlt)
          have hd : wr.cell? ⟨w.heap.size, 3 + j, none⟩ = _ := HB6.out.low (3 + j) _ (by omega) hx1
          have HX2 := Lib.hid hx2
          have HSU := Lib.hid (flatN_succ m.eight 8 j (by simpa [Msg.eight] using hlt))
          have HLN := Lib.hid (flatN_length m.eight 8 j (by simpa [Msg.eight] using hj))
          generalize m.eight.getD j 0 = x at hd HX2 HSU
          have hj4 : (j : Int) < 4 := by omega
          have hj0 : (0 : Int) ≤ (j : Int) := by omega
          clear hx1 hx2
          go_wp2_with fail
          ((with_reducible refine (uint_g w2.heap.size _ x 8 _ _ _ HP.out (by rw [List.length_append, HLN.out, HL1.out]; omega) (by omega) (by omega) HX2.out (by omega) (by omega)).mono ?_); rintro e w6 ⟨rfl, hp4⟩)
          have HP4 := Lib.hid hp4
          rw [List.append_assoc, HSU.out] at HP4
          clear hp4 hc hd
          go_wp2
          go_roundw
          case rel => exact ⟨j + 1, by omega, by go_num, HP4⟩
          case measure => simp [intOf]; omega
        · obtain rfl : j = 4 := by omega
          have HPA := Lib.hid HP.out.toW
          have HL2 := Lib.hid (flatN_length m.eight 8 4 (by simp [Msg.eight]))
          have HQ : Hid (P1 ++ flatN m.eight 8 4 ++ m.hd ++ be m.cl.toNat 1 ++ be m.nr 8 = m.headB) := Lib.hid (by rw [← HP1.out]; rfl)
          obtain ⟨P2, hP2⟩ : ∃ P2, P1 ++ flatN m.eight 8 4 = P2 := ⟨_, rfl⟩
          have HL3 : Hid (P2.length = 36) := Lib.hid (by rw [← hP2, List.length_append, HL1.out, HL2.out])
          rw [hP2] at HPA HQ
          have HB6 : Hid (MsgAt wr w.heap.size m) := Lib.hid (HB2.out.keep HPA.out.same (fun e => e))
          have HHB := Lib.hid (HB6.out.hdB 32)
          have HHL : Hid (m.hd.length = 32) := Lib.hid HB6.out.2
          have HCL : Hid ((m.cl.toNat : Int) = m.cl ∧ m.cl.toNat < 256) := Lib.hid (by have := HR.out.clr; omega)
          clear HP HG5 HR5 hP2 HL1 HL2
          go_wp2_with fail
          ((with_reducible refine (raw_w w2.heap.size _ m.hd _ _ HPA.out HHB.out (by have := HL3.out; have := HHL.out; omega)).mono ?_); rintro e w7 ⟨rfl, hp7⟩)
          have HP7 := Lib.hid hp7
          have HB7 : Hid (MsgAt w7 w.heap.size m) := Lib.hid (HB2.out.keep hp7.same (fun e => e))
          have c39 : w7.cell? ⟨w.heap.size, 39, none⟩ = some (.int .i64 m.cl) := HB7.out.high 0 39 _ rfl rfl
          have hu : IntKind.u64.wrap m.cl = m.cl := IntWalk.u64_in m.cl (by have := HR.out.clr; omega)
          clear hp7 HPA HB6 HHB
          go_wp2_with fail
          ((with_reducible refine (uint_w w2.heap.size _ m.cl.toNat 1 _ _ _ HP7.out (by rw [List.length_append, HL3.out, HHL.out]; omega) (by omega) (by omega) (by have := HCL.out; omega) (HCL.out.1.symm) (by omega)).mono ?_); rintro e w8 ⟨rfl, hp8⟩)
          have HP8 := Lib.hid hp8
          have HB8 : Hid (MsgAt w8 w.heap.size m) := Lib.hid (HB2.out.keep hp8.same (fun e => e))
          have c40 : w8.cell? ⟨w.heap.size, 40, none⟩ = some (.int .u64 m.nr) := HB8.out.high 1 40 _ rfl rfl
          have HNR : Hid (m.nr < 256 ^ 8) := Lib.hid (by have := HM2.out.nm; omega)
          clear hp8 HP7 HB7 c39 hu
          go_wp2_with fail
          ((with_reducible refine (uint_w w2.heap.size _ m.nr 8 _ _ _ HP8.out (by rw [List.length_append, List.length_append, HL3.out, HHL.out, be_length]; omega) (by omega) (by omega) HNR.out rfl (by omega)).mono ?_); rintro e w9 ⟨rfl, hp9⟩)
          rw [HQ.out] at hp9
          have HP9 := Lib.hid hp9
          have HB9 : Hid (MsgAt w9 w.heap.size m) := Lib.hid (HB2.out.keep hp9.same (fun e => e))
          have HHL9 : Hid (m.headB.length = 77) := Lib.hid (m.headB_length HHL.out)
          have c0 : w9.cell? ⟨w.heap.size, 0, none⟩ = some (.int .i64 m.k) := HB9.out.low 0 _ (by omega) rfl
          clear hp9 HP8 HB8 c40
          by_cases k1 : m.k = 1
          · have e1 : (m.k == 1) = true := by simpa using k1
            have e2 : (m.k == 2) = false := by rw [k1]; rfl
            have HOB : Hid (m.opB = opBytes m.ok m.off m.on m.p m.q m.od) := Lib.hid (if_pos k1)
            have HAB : Hid (m.ansB = []) := Lib.hid (if_neg (by omega))
            have HBY : Hid (Bytes w9 (.slice m.oo m.od.length m.oc) m.od) := Lib.hid (HM2.out.od.same HP9.out.same)
            have HWY : Hid (Calls Tryd.prog 34 #[.agg m.op.toArray] w9 fun e w' => ∃ v, e = .returned (.tuple #[v, .int .i64 0]) ∧ w'.ownsRow w9.heap.size 5 1 v (opBytes m.ok m.off m.on m.p m.q m.od).length (u8s (opBytes m.ok m.off m.on m.p m.q m.od)) ∧ Same w9 w') := Lib.hid (write_yes m.ok m.off m.on m.p m.q m.oo m.oc m.od w9 (HR.out.opOk k1) HBY.out)
            rw [← HOB.out] at HWY
            clear k1
            go_wp2_with (refine wpList_load_mid (by rfl) 35 _ (by rfl) w.heap.size 41 (by rfl) m.op _ HB9.out.opR Tryd.underlying35 rfl (by exact Tryd.sizeOpW) ?_)
            ((with_reducible refine (HWY.out).mono ?_); rintro e w10 ⟨v, rfl, ho10, hk10⟩)
            have HG10 := Lib.hid (HP9.out.toG hk10)
            have HBS := Lib.hid (Beside.own ho10 rfl)
            have HB10 : Hid (MsgAt w10 w.heap.size m) := Lib.hid (HB9.out.keep hk10 (fun e => e))
            have c0 : w10.cell? ⟨w.heap.size, 0, none⟩ = some (.int .i64 m.k) := HB10.out.low 0 _ (by omega) rfl
            clear ho10 hk10 HWY HBY
            go_wp2_with fail
            ((with_reducible refine (text_g w2.heap.size _ m.opB _ _ HG10.out HBS.out (by have := HR.out.op_len; omega) (by have := HR.out.op_len; have := HHL9.out; omega)).mono ?_); rintro e w11 ⟨rfl, hp11⟩)
            have HP11 := Lib.hid hp11
            clear hp11 HG10 HBS
            have HNIL := Lib.hid (Beside.nil w10 (fun j => w9.heap.size ≤ j ∧ j < w10.heap.size))
            go_wp2_with fail
            ((with_reducible refine (text_g w2.heap.size _ [] _ _ HP11.out HNIL.out (by simp) (by have := HR.out.op_len; have := HHL9.out; simp only [List.length_append, be_length, List.length_nil]; omega)).mono ?_); rintro e w12 ⟨rfl, hp12⟩)
            have HP12 : Hid (PenW w2 w12 w2.heap.size m.frontB) := Lib.hid (by
              have := hp12.toW
              rw [← HAB.out] at this
              exact this)
            clear hp12 HP11 c0 e1 e2
            have HFL : Hid (m.frontB.length ≤ 351) := Lib.hid (HR.out.front_len HHL.out)
            have HB12 : Hid (MsgAt w12 w.heap.size m) := Lib.hid (HB2.out.keep HP12.out.same (fun e => e))
            have c51 : w12.cell? ⟨w.heap.size, 51, none⟩ = some (.slice m.ho m.hs.length m.hcap) := HB12.out.high 12 51 _ rfl rfl
            obtain ⟨hn, hhn⟩ : ∃ n, m.hs.length = n := ⟨_, rfl⟩
            rw [hhn] at c51
            have HHN := Lib.hid hhn
            have hn16 : hn ≤ 16 := by have := HR.out.hs; omega
            have hu : IntKind.u64.wrap (hn : Int) = hn := IntWalk.u64_in (hn : Int) (by omega)
            clear hhn HB12
            go_wp2_with fail
            ((with_reducible refine (uint_w w2.heap.size _ hn 1 _ _ _ HP12.out (by have := HFL.out; omega) (by omega) (by omega) (by omega) (by omega) (by omega)).mono ?_); rintro e w13 ⟨rfl, hp13⟩)
            obtain ⟨X1, hX1⟩ : ∃ X, m.frontB ++ be hn 1 = X := ⟨_, rfl⟩
            have HL1 : Hid (X1.length ≤ 352) := Lib.hid (by rw [← hX1, List.length_append, be_length]; have := HFL.out; omega)
            rw [hX1] at hp13
            have HX1 := Lib.hid hX1
            have HP13 := Lib.hid hp13
            have HB13 : Hid (MsgAt w13 w.heap.size m) := Lib.hid (HB2.out.keep hp13.same (fun e => e))
            have c51 : w13.cell? ⟨w.heap.size, 51, none⟩ = some (.slice m.ho hn m.hcap) := by
              have := HB13.out.high 12 51 _ rfl rfl
              rwa [HHN.out] at this
            obtain ⟨ho, hho⟩ : ∃ x, m.ho = x := ⟨_, rfl⟩
            have HHS : Hid (Hss w2 ho m.hs) := Lib.hid (by rw [← hho]; exact HM2.out.hs)
            rw [hho] at c51
            clear hho hX1 hp13 HP12 HB13
            go_wp2
            clear c51
            go_loopw [102] (fun i wz => ∃ j : Nat, j ≤ hn ∧ i = .int .i64 j ∧ Hid (PenW w2 wz w2.heap.size (X1 ++ (m.hs.take j).flatten))) (fun i _ => hn - (intOf i).toNat)
            case atStart => exact ⟨0, by omega, rfl, Lib.hid (by simpa using HP13.out)⟩
            case round =>
              obtain ⟨j, hj, rfl, HP⟩ := hrel
              by_cases hlt : j < hn
              · have hjl : j < m.hs.length := by rw [HHN.out]; exact hlt
                obtain ⟨g, off, rfl, hra⟩ := (HHS.out.same HP.out.same).at hjl
                have HX : Hid ((m.hs[j]).length = 32) := Lib.hid (HHS.out.1 _ (List.getElem_mem hjl))
                have HTK := Lib.hid (flat_take m.hs j hjl)
                have HTL := Lib.hid (flat32_take m.hs HHS.out.1 j (by omega))
                have HRA := Lib.hid hra
                clear hra
                generalize m.hs[j] = x at HX HTK HRA
                have HI : Hid ((Tryd.prog.info? 32).map (·.size) = some (u8s x).length) := Lib.hid (by rw [u8s_length, HX.out]; exact Tryd.sizeHashW)
                obtain ⟨w9', hw9⟩ : ∃ w9, (wr.alloc (.cells z32.toArray 32)).setRow wr.heap.size (u8s x).toArray = w9 := ⟨_, rfl⟩
                have HW9 := Lib.hid hw9
                have HN9 : Hid ((wr.alloc (.cells z32.toArray 32)).heap[wr.heap.size]? = some (.cells z32.toArray 32 (0, 0))) := Lib.hid (heap_alloc_new wr _)
                have HI9 := Lib.hid (Tryd.sizeHash x HX.out)
                have HZ9 : Hid (z32.toArray.size = (u8s x).toArray.size) := Lib.hid (size32 (List.replicate 32 0) x (by simp) HX.out)
                have HX9 : Hid (Bytes w9' (.slice (some ⟨wr.heap.size, 0, none⟩) 32 32) x) := Lib.hid (by
                  rw [← hw9]
                  exact Bytes.of_block (Whole.row (cs := z32) (heap_alloc_new wr _)) (by simp) 32 32 HX.out.symm)
                have HP9' : Hid (PenW w2 w9' w2.heap.size (X1 ++ (m.hs.take j).flatten)) := Lib.hid (by
                  rw [← hw9]
                  exact HP.out.keep (S := fun k => k = wr.heap.size) (((Keeps.refl _ _).alloc _).setRow _ _ (.inr rfl)) (fun j e => by omega))
                have hjn : (j : Int) < (hn : Int) := by omega
                have hj0 : (0 : Int) ≤ (j : Int) := by omega
                clear hw9 hjl
                go_wp2_with (first
                  | (refine wpList_load_mid (by rfl) 32 _ (by rfl) g (off + j * 32) (by rfl) (u8s x) _ HRA.out Tryd.underlying32 rfl HI.out ?_)
                  | (refine wpList_store_row (by rfl) 32 _ _ (by rfl) wr.heap.size (u8s x).toArray (by rfl) (by rfl) 32 z32.toArray HN9.out HI9.out HZ9.out (u8s_all _) ?_; rw [HW9.out]))
                ((with_reducible refine (raw_w w2.heap.size _ x _ _ HP9'.out HX9.out (by rw [List.length_append, HTL.out]; have := HL1.out; have := HX.out; omega)).mono ?_); rintro e w15 ⟨rfl, hp15⟩)
                have HP15 := Lib.hid hp15
                rw [List.append_assoc, HTK.out] at HP15
                clear hp15 HX9 HP9' HN9 HW9
                go_wp2
                go_roundw
                case rel => exact ⟨j + 1, by omega, by go_num, HP15⟩
                case measure => simp [intOf]; omega
              · obtain rfl : j = hn := by omega
                have hjn : ¬ (j : Int) < (j : Int) := by omega
                have HP14 : Hid (PenW w2 wr w2.heap.size (X1 ++ m.hs.flatten)) := Lib.hid (by
                  have := HP.out
                  rwa [List.take_of_length_le (by rw [HHN.out]; exact Nat.le_refl _)] at this)
                have HTL : Hid (m.hs.flatten.length ≤ 512) := Lib.hid (by rw [flat32 _ HHS.out.1, HHN.out]; omega)
                obtain ⟨X2, hX2⟩ : ∃ X, X1 ++ m.hs.flatten = X := ⟨_, rfl⟩
                have HL2 : Hid (X2.length ≤ 864) := Lib.hid (by rw [← hX2, List.length_append]; have := HTL.out; have := HL1.out; omega)
                rw [hX2] at HP14
                have HX2 := Lib.hid hX2
                have HB14 : Hid (MsgAt wr w.heap.size m) := Lib.hid (HB2.out.keep HP14.out.same (fun e => e))
                have c52 : wr.cell? ⟨w.heap.size, 52, none⟩ = some (.slice m.bo m.bs.length m.bcap) := HB14.out.high 13 52 _ rfl rfl
                obtain ⟨bn, hbn⟩ : ∃ n, m.bs.length = n := ⟨_, rfl⟩
                rw [hbn] at c52
                have HBN := Lib.hid hbn
                have bn64 : bn ≤ 64 := by have := HR.out.bs; omega
                have hu : IntKind.u64.wrap (bn : Int) = bn := IntWalk.u64_in (bn : Int) (by omega)
                clear hX2 HP HB14
                have HBRW : Hid (Rows2 w2 (.slice m.bo bn m.bcap) m.bs) := Lib.hid (by rw [← hbn]; exact HM2.out.bs)
                clear hbn
                go_wp2_with fail
                ((with_reducible refine (uint_w w2.heap.size _ bn 1 _ _ _ HP14.out (by have := HL2.out; omega) (by omega) (by omega) (by omega) (by omega) (by omega)).mono ?_); rintro e w16 ⟨rfl, hp16⟩)
                obtain ⟨X3, hX3⟩ : ∃ X, X2 ++ be bn 1 = X := ⟨_, rfl⟩
                have HL3' : Hid (X3.length ≤ 865) := Lib.hid (by rw [← hX3, List.length_append, be_length]; have := HL2.out; omega)
                rw [hX3] at hp16
                have HX3 := Lib.hid hX3
                have HP16 := Lib.hid hp16
                have HB16 : Hid (MsgAt w16 w.heap.size m) := Lib.hid (HB2.out.keep hp16.same (fun e => e))
                have c52 : w16.cell? ⟨w.heap.size, 52, none⟩ = some (.slice m.bo bn m.bcap) := by
                  have := HB16.out.high 13 52 _ rfl rfl
                  rwa [HBN.out] at this
                obtain ⟨bo, hbo⟩ : ∃ x, m.bo = x := ⟨_, rfl⟩
                rw [hbo] at c52 HBRW
                clear hbo hX3 hp16 HP14 HB16
                go_wp2
                clear c52
                have HEL : Hid ((m.bs.map (·.2)).length = bn) := Lib.hid (by rw [List.length_map, HBN.out])
                have HEA : Hid (∀ b ∈ m.bs.map (·.2), b.length ≤ 470) := Lib.hid (fun b hb => by
                  obtain ⟨r, h1, rfl⟩ := List.mem_map.1 hb
                  exact HR.out.each r h1)
                go_loopw [119] (fun i wz => ∃ j : Nat, j ≤ bn ∧ i = .int .i64 j ∧ Hid (PenW w2 wz w2.heap.size (X3 ++ txts ((m.bs.map (·.2)).take j)))) (fun i _ => bn - (intOf i).toNat)
                case atStart => exact ⟨0, by omega, rfl, Lib.hid (by simpa [txts] using HP16.out)⟩
                case round =>
                  obtain ⟨j, hj, rfl, HP⟩ := hrel
                  by_cases hlt : j < bn
                  · have hjl : j < m.bs.length := by rw [HBN.out]; exact hlt
                    have hjm : j < (m.bs.map (·.2)).length := by rw [HEL.out]; exact hlt
                    obtain ⟨a, xo, xc, rfl, hx, hc, hb⟩ := HBRW.out.at hjl
                    have hc2 := cell_same hc HP.out.same
                    have HGE : Hid ((m.bs.map (·.2))[j] = (m.bs[j]).2) := Lib.hid (by simp)
                    have HEJ : Hid ((m.bs[j]).2.length ≤ 470) := Lib.hid (HR.out.each _ (List.getElem_mem hjl))
                    have HTK := Lib.hid (txts_take (m.bs.map (·.2)) j hjm)
                    rw [HGE.out] at HTK
                    have HTL := Lib.hid (txts_take_len (m.bs.map (·.2)) HEA.out j (by omega))
                    have HBB := Lib.hid hb
                    clear hb hc HGE hx
                    generalize (m.bs[j]).2 = x at hc2 HEJ HTK HBB
                    have hjn : (j : Int) < (bn : Int) := by omega
                    have hj0 : (0 : Int) ≤ (j : Int) := by omega
                    clear hjl hjm
                    go_wp2_with fail
                    ((with_reducible refine (text_w w2.heap.size _ x _ _ _ _ HP.out HBB.out (by have := HEJ.out; omega) (by rw [List.length_append]; have := HTL.out; have := HL3'.out; have := HEJ.out; omega)).mono ?_); rintro e w17 ⟨rfl, hp17⟩)
                    have HP17 := Lib.hid hp17
                    rw [List.append_assoc, HTK.out] at HP17
                    clear hp17 hc2
                    go_wp2
                    go_roundw
                    case rel => exact ⟨j + 1, by omega, by go_num, HP17⟩
                    case measure => simp [intOf]; omega
                  · obtain rfl : j = bn := by omega
                    have hjn : ¬ (j : Int) < (j : Int) := by omega
                    have HBODY : Hid (X3 ++ txts (m.bs.map (·.2)) = m.bodyB) := Lib.hid (by
                      rw [← HX3.out, ← HX2.out, ← HX1.out]
                      unfold Msg.bodyB
                      rw [HHN.out, HBN.out])
                    have HP18 : Hid (PenW w2 wr w2.heap.size m.bodyB) := Lib.hid (by
                      have := HP.out
                      rw [List.take_of_length_le (by rw [HEL.out]; exact Nat.le_refl _), HBODY.out] at this
                      exact this)
                    have HBL : Hid (m.bodyB.length ≤ 31073 ∧ 0 < m.bodyB.length) := Lib.hid (by
                      have h1 := txts_take_len (m.bs.map (·.2)) HEA.out j (by omega)
                      rw [List.take_of_length_le (by rw [HEL.out]; exact Nat.le_refl _)] at h1
                      have h2 := HL3'.out
                      rw [← HBODY.out, List.length_append]
                      refine ⟨by omega, ?_⟩
                      rw [← HX3.out, List.length_append, be_length]; omega)
                    obtain ⟨Y, hY⟩ : ∃ Y, m.bodyB = Y := ⟨_, rfl⟩
                    have HFIN : Hid (m.bytes = Y ++ (shaOf Y).take 8) := Lib.hid (by rw [← hY]; rfl)
                    rw [hY] at HP18 HBL
                    obtain ⟨L, hL⟩ : ∃ L, Y.length = L := ⟨_, rfl⟩
                    have HYL := Lib.hid hL
                    rw [hL] at HBL
                    clear hY hL HP HP16 HBODY
                    go_wp2_with fail
                    ((with_reducible refine (data_w w2.heap.size _ _ HP18.out (by have := HYL.out; have := HBL.out; omega)).mono ?_); rintro e w19 ⟨v, rfl, ho19, hk19⟩)
                    rw [HYL.out] at ho19
                    obtain ⟨g7, c7, rfl⟩ : ∃ g7 c7, v = .slice (some ⟨g7, 0, none⟩) L c7 := by
                      rcases ho19.2 with ⟨_, h0⟩ | ⟨g, cp, cur, h, _⟩
                      · have := HBL.out; omega
                      · exact ⟨g, cp, h⟩
                    have HO19 := Lib.hid ho19
                    have HC19 := Lib.hid (own_cap ho19)
                    have HP19 := Lib.hid (HP18.out.same' hk19)
                    have HN19 : Hid (Nums w19) := Lib.hid (HNUM.out.keep (HK2.out.trans (HP18.out.same' hk19).same (fun _ _ e => e)) (fun e => e))
                    clear ho19 hk19 HP18
                    go_wp2_with fail
                    ((with_reducible refine (shaSum_any _ L c7 Y _ (Bytes.of_own' HO19.out HYL.out) HYL.out HC19.out.1 HC19.out.2 (by have := HBL.out; omega) HN19.out).mono ?_); rintro e w20 ⟨rfl, hk20⟩)
                    have HP20 := Lib.hid (HP19.out.same' hk20)
                    clear hk20 HP19 HO19 HC19
                    obtain ⟨w9', hw9⟩ : ∃ w9, (w20.alloc (.cells z32.toArray 32)).setRow w20.heap.size (u8s (shaOf Y)).toArray = w9 := ⟨_, rfl⟩
                    have HW9 := Lib.hid hw9
                    have HN9 : Hid ((w20.alloc (.cells z32.toArray 32)).heap[w20.heap.size]? = some (.cells z32.toArray 32 (0, 0))) := Lib.hid (heap_alloc_new w20 _)
                    have HI9 := Lib.hid (Tryd.sizeHash (shaOf Y) (shaOf_length _))
                    have HZ9 : Hid (z32.toArray.size = (u8s (shaOf Y)).toArray.size) := Lib.hid (size32 (List.replicate 32 0) (shaOf Y) (by simp) (shaOf_length _))
                    have HSL : Hid (((shaOf Y).take 8).length = 8) := Lib.hid (by rw [List.length_take, shaOf_length]; rfl)
                    have HX9 : Hid (Bytes w9' (.slice (some ⟨w20.heap.size, 0, none⟩) 8 32) ((shaOf Y).take 8)) := Lib.hid (by
                      rw [← hw9]
                      have h1 : Bytes ((w20.alloc (.cells z32.toArray 32)).setRow w20.heap.size (u8s (shaOf Y)).toArray) (.slice (some ⟨w20.heap.size, 0, none⟩) (shaOf Y).length 32) (shaOf Y) := Bytes.of_block (Whole.row (cs := z32) (heap_alloc_new w20 _)) (by simp) _ 32 rfl
                      exact Bytes.take h1 8 (by rw [shaOf_length]; omega))
                    have HP9' : Hid (PenW w2 w9' w2.heap.size Y) := Lib.hid (by
                      rw [← hw9]
                      exact HP20.out.keep (S := fun k => k = w20.heap.size) (((Keeps.refl _ _).alloc _).setRow _ _ (.inr rfl)) (fun j e => by omega))
                    clear hw9
                    go_wp2_with (first
                      | (refine wpList_store_row (by rfl) 32 _ _ (by rfl) w20.heap.size (u8s (shaOf Y)).toArray (by rfl) (by rfl) 32 z32.toArray HN9.out HI9.out HZ9.out (u8s_all _) ?_; rw [HW9.out]))
                    ((with_reducible refine (raw_w w2.heap.size _ ((shaOf Y).take 8) _ _ HP9'.out HX9.out (by rw [HSL.out]; have := HYL.out; have := HBL.out; omega)).mono ?_); rintro e w21 ⟨rfl, hp21⟩)
                    rw [← HFIN.out] at hp21
                    have HP21 := Lib.hid hp21
                    have HML : Hid (m.bytes.length ≤ 40000) := Lib.hid (by rw [HFIN.out, List.length_append, HSL.out, HYL.out]; have := HBL.out; omega)
                    clear hp21 HX9 HP9' HW9 HN9
                    go_wp2_with fail
                    ((with_reducible refine (data_w w2.heap.size _ _ HP21.out (by have := HML.out; omega)).mono ?_); rintro e w22 ⟨v, rfl, ho22, hk22⟩)
                    have HO22 : Hid (w22.ownsRow w.heap.size 5 1 v m.bytes.length (u8s m.bytes)) := Lib.hid (own_base ho22 (by have h1 := HK2.out.size; have h2 := HP21.out.same.size; omega))
                    have HK22 : Hid (Same w w22) := Lib.hid ((HK2.out.trans HP21.out.same (fun _ _ e => e)).trans hk22 (fun _ _ e => e))
                    clear ho22 hk22
                    go_wp2
                    go_ret2
                    exact ⟨HK22.out, .inl ⟨HR.out, v, rfl, HO22.out⟩⟩
          have e1 : (m.k == 1) = false := by simpa using k1
          have HOB : Hid (m.opB = []) := Lib.hid (if_neg k1)
          clear k1
          by_cases k2 : m.k = 2
          · have e2 : (m.k == 2) = true := by simpa using k2
            have HAB : Hid (m.ansB = ansBytes m.ac m.an m.ad m.ns) := Lib.hid (if_pos k2)
            have HBY : Hid (Bytes w9 (.slice m.ao m.ad.length m.acap) m.ad) := Lib.hid (HM2.out.ad.same HP9.out.same)
            have HST : Hid (Strs w9 (.slice m.no m.ns.length m.ncap) m.ns) := Lib.hid (HM2.out.ns.same HP9.out.same)
            have HWY : Hid (Calls Tryd.prog 35 #[.agg m.ans.toArray] w9 fun e w' => ∃ v, e = .returned (.tuple #[v, .int .i64 0]) ∧ w'.ownsRow w9.heap.size 5 1 v (ansBytes m.ac m.an m.ad m.ns).length (u8s (ansBytes m.ac m.an m.ad m.ns)) ∧ Same w9 w') := Lib.hid (writeAnswer_yes m.ac m.an m.ao m.no m.acap m.ncap m.ad m.ns w9 HBY.out HST.out (HR.out.ansR k2))
            rw [← HAB.out] at HWY
            clear k2
            go_wp2_with (refine wpList_load_mid (by rfl) 41 _ (by rfl) w.heap.size 47 (by rfl) m.ans _ HB9.out.ansR Tryd.underlying41 rfl (by exact Tryd.sizeAnsW) ?_)
            ((with_reducible refine (HWY.out).mono ?_); rintro e w10 ⟨v, rfl, ho10, hk10⟩)
            have HG10 := Lib.hid (HP9.out.toG hk10)
            have HBS := Lib.hid (Beside.own ho10 rfl)
            have HNIL := Lib.hid (Beside.nil w10 (fun j => w9.heap.size ≤ j ∧ j < w10.heap.size))
            clear ho10 hk10 HWY HBY HST
            go_wp2_with fail
            ((with_reducible refine (text_g w2.heap.size _ [] _ _ HG10.out HNIL.out (by simp) (by have := HHL9.out; simp only [List.length_nil]; omega)).mono ?_); rintro e w11 ⟨rfl, hp11⟩)
            have HP11 := Lib.hid hp11
            clear hp11 HG10
            go_wp2_with fail
            ((with_reducible refine (text_g w2.heap.size _ m.ansB _ _ HP11.out HBS.out (by have := HR.out.ans_len; omega) (by have := HR.out.ans_len; have := HHL9.out; simp only [List.length_append, be_length, List.length_nil]; omega)).mono ?_); rintro e w12 ⟨rfl, hp12⟩)
            have HP12 : Hid (PenW w2 w12 w2.heap.size m.frontB) := Lib.hid (by
              have := hp12.toW
              unfold Msg.frontB txt
              rw [HOB.out]
              exact this)
            clear hp12 HP11 c0 e1 e2 HBS
            have HFL : Hid (m.frontB.length ≤ 351) := Lib.hid (HR.out.front_len HHL.out)
            have HB12 : Hid (MsgAt w12 w.heap.size m) := Lib.hid (HB2.out.keep HP12.out.same (fun e => e))
            have c51 : w12.cell? ⟨w.heap.size, 51, none⟩ = some (.slice m.ho m.hs.length m.hcap) := HB12.out.high 12 51 _ rfl rfl
            obtain ⟨hn, hhn⟩ : ∃ n, m.hs.length = n := ⟨_, rfl⟩
            rw [hhn] at c51
            have HHN := Lib.hid hhn
            have hn16 : hn ≤ 16 := by have := HR.out.hs; omega
            have hu : IntKind.u64.wrap (hn : Int) = hn := IntWalk.u64_in (hn : Int) (by omega)
            clear hhn HB12
            go_wp2_with fail
            ((with_reducible refine (uint_w w2.heap.size _ hn 1 _ _ _ HP12.out (by have := HFL.out; omega) (by omega) (by omega) (by omega) (by omega) (by omega)).mono ?_); rintro e w13 ⟨rfl, hp13⟩)
            obtain ⟨X1, hX1⟩ : ∃ X, m.frontB ++ be hn 1 = X := ⟨_, rfl⟩
            have HL1 : Hid (X1.length ≤ 352) := Lib.hid (by rw [← hX1, List.length_append, be_length]; have := HFL.out; omega)
            rw [hX1] at hp13
            have HX1 := Lib.hid hX1
            have HP13 := Lib.hid hp13
            have HB13 : Hid (MsgAt w13 w.heap.size m) := Lib.hid (HB2.out.keep hp13.same (fun e => e))
            have c51 : w13.cell? ⟨w.heap.size, 51, none⟩ = some (.slice m.ho hn m.hcap) := by
              have := HB13.out.high 12 51 _ rfl rfl
              rwa [HHN.out] at this
            obtain ⟨ho, hho⟩ : ∃ x, m.ho = x := ⟨_, rfl⟩
            have HHS : Hid (Hss w2 ho m.hs) := Lib.hid (by rw [← hho]; exact HM2.out.hs)
            rw [hho] at c51
            clear hho hX1 hp13 HP12 HB13
            go_wp2
            clear c51
            go_loopw [102] (fun i wz => ∃ j : Nat, j ≤ hn ∧ i = .int .i64 j ∧ Hid (PenW w2 wz w2.heap.size (X1 ++ (m.hs.take j).flatten))) (fun i _ => hn - (intOf i).toNat)
            case atStart => exact ⟨0, by omega, rfl, Lib.hid (by simpa using HP13.out)⟩
            case round =>
              obtain ⟨j, hj, rfl, HP⟩ := hrel
              by_cases hlt : j < hn
              · have hjl : j < m.hs.length := by rw [HHN.out]; exact hlt
                obtain ⟨g, off, rfl, hra⟩ := (HHS.out.same HP.out.same).at hjl
                have HX : Hid ((m.hs[j]).length = 32) := Lib.hid (HHS.out.1 _ (List.getElem_mem hjl))
                have HTK := Lib.hid (flat_take m.hs j hjl)
                have HTL := Lib.hid (flat32_take m.hs HHS.out.1 j (by omega))
                have HRA := Lib.hid hra
                clear hra
                generalize m.hs[j] = x at HX HTK HRA
                have HI : Hid ((Tryd.prog.info? 32).map (·.size) = some (u8s x).length) := Lib.hid (by rw [u8s_length, HX.out]; exact Tryd.sizeHashW)
                obtain ⟨w9', hw9⟩ : ∃ w9, (wr.alloc (.cells z32.toArray 32)).setRow wr.heap.size (u8s x).toArray = w9 := ⟨_, rfl⟩
                have HW9 := Lib.hid hw9
                have HN9 : Hid ((wr.alloc (.cells z32.toArray 32)).heap[wr.heap.size]? = some (.cells z32.toArray 32 (0, 0))) := Lib.hid (heap_alloc_new wr _)
                have HI9 := Lib.hid (Tryd.sizeHash x HX.out)
                have HZ9 : Hid (z32.toArray.size = (u8s x).toArray.size) := Lib.hid (size32 (List.replicate 32 0) x (by simp) HX.out)
                have HX9 : Hid (Bytes w9' (.slice (some ⟨wr.heap.size, 0, none⟩) 32 32) x) := Lib.hid (by
                  rw [← hw9]
                  exact Bytes.of_block (Whole.row (cs := z32) (heap_alloc_new wr _)) (by simp) 32 32 HX.out.symm)
                have HP9' : Hid (PenW w2 w9' w2.heap.size (X1 ++ (m.hs.take j).flatten)) := Lib.hid (by
                  rw [← hw9]
                  exact HP.out.keep (S := fun k => k = wr.heap.size) (((Keeps.refl _ _).alloc _).setRow _ _ (.inr rfl)) (fun j e => by omega))
                have hjn : (j : Int) < (hn : Int) := by omega
                have hj0 : (0 : Int) ≤ (j : Int) := by omega
                clear hw9 hjl
                go_wp2_with (first
                  | (refine wpList_load_mid (by rfl) 32 _ (by rfl) g (off + j * 32) (by rfl) (u8s x) _ HRA.out Tryd.underlying32 rfl HI.out ?_)
                  | (refine wpList_store_row (by rfl) 32 _ _ (by rfl) wr.heap.size (u8s x).toArray (by rfl) (by rfl) 32 z32.toArray HN9.out HI9.out HZ9.out (u8s_all _) ?_; rw [HW9.out]))
                ((with_reducible refine (raw_w w2.heap.size _ x _ _ HP9'.out HX9.out (by rw [List.length_append, HTL.out]; have := HL1.out; have := HX.out; omega)).mono ?_); rintro e w15 ⟨rfl, hp15⟩)
                have HP15 := Lib.hid hp15
                rw [List.append_assoc, HTK.out] at HP15
                clear hp15 HX9 HP9' HN9 HW9
                go_wp2
                go_roundw
                case rel => exact ⟨j + 1, by omega, by go_num, HP15⟩
                case measure => simp [intOf]; omega
              · obtain rfl : j = hn := by omega
                have hjn : ¬ (j : Int) < (j : Int) := by omega
                have HP14 : Hid (PenW w2 wr w2.heap.size (X1 ++ m.hs.flatten)) := Lib.hid (by
                  have := HP.out
                  rwa [List.take_of_length_le (by rw [HHN.out]; exact Nat.le_refl _)] at this)
                have HTL : Hid (m.hs.flatten.length ≤ 512) := Lib.hid (by rw [flat32 _ HHS.out.1, HHN.out]; omega)
                obtain ⟨X2, hX2⟩ : ∃ X, X1 ++ m.hs.flatten = X := ⟨_, rfl⟩
                have HL2 : Hid (X2.length ≤ 864) := Lib.hid (by rw [← hX2, List.length_append]; have := HTL.out; have := HL1.out; omega)
                rw [hX2] at HP14
                have HX2 := Lib.hid hX2
                have HB14 : Hid (MsgAt wr w.heap.size m) := Lib.hid (HB2.out.keep HP14.out.same (fun e => e))
                have c52 : wr.cell? ⟨w.heap.size, 52, none⟩ = some (.slice m.bo m.bs.length m.bcap) := HB14.out.high 13 52 _ rfl rfl
                obtain ⟨bn, hbn⟩ : ∃ n, m.bs.length = n := ⟨_, rfl⟩
                rw [hbn] at c52
                have HBN := Lib.hid hbn
                have bn64 : bn ≤ 64 := by have := HR.out.bs; omega
                have hu : IntKind.u64.wrap (bn : Int) = bn := IntWalk.u64_in (bn : Int) (by omega)
                clear hX2 HP HB14
                have HBRW : Hid (Rows2 w2 (.slice m.bo bn m.bcap) m.bs) := Lib.hid (by rw [← hbn]; exact HM2.out.bs)
                clear hbn
                go_wp2_with fail
                ((with_reducible refine (uint_w w2.heap.size _ bn 1 _ _ _ HP14.out (by have := HL2.out; omega) (by omega) (by omega) (by omega) (by omega) (by omega)).mono ?_); rintro e w16 ⟨rfl, hp16⟩)
                obtain ⟨X3, hX3⟩ : ∃ X, X2 ++ be bn 1 = X := ⟨_, rfl⟩
                have HL3' : Hid (X3.length ≤ 865) := Lib.hid (by rw [← hX3, List.length_append, be_length]; have := HL2.out; omega)
                rw [hX3] at hp16
                have HX3 := Lib.hid hX3
                have HP16 := Lib.hid hp16
                have HB16 : Hid (MsgAt w16 w.heap.size m) := Lib.hid (HB2.out.keep hp16.same (fun e => e))
                have c52 : w16.cell? ⟨w.heap.size, 52, none⟩ = some (.slice m.bo bn m.bcap) := by
                  have := HB16.out.high 13 52 _ rfl rfl
                  rwa [HBN.out] at this
                obtain ⟨bo, hbo⟩ : ∃ x, m.bo = x := ⟨_, rfl⟩
                rw [hbo] at c52 HBRW
                clear hbo hX3 hp16 HP14 HB16
                go_wp2
                clear c52
                have HEL : Hid ((m.bs.map (·.2)).length = bn) := Lib.hid (by rw [List.length_map, HBN.out])
                have HEA : Hid (∀ b ∈ m.bs.map (·.2), b.length ≤ 470) := Lib.hid (fun b hb => by
                  obtain ⟨r, h1, rfl⟩ := List.mem_map.1 hb
                  exact HR.out.each r h1)
                go_loopw [119] (fun i wz => ∃ j : Nat, j ≤ bn ∧ i = .int .i64 j ∧ Hid (PenW w2 wz w2.heap.size (X3 ++ txts ((m.bs.map (·.2)).take j)))) (fun i _ => bn - (intOf i).toNat)
                case atStart => exact ⟨0, by omega, rfl, Lib.hid (by simpa [txts] using HP16.out)⟩
                case round =>
                  obtain ⟨j, hj, rfl, HP⟩ := hrel
                  by_cases hlt : j < bn
                  · have hjl : j < m.bs.length := by rw [HBN.out]; exact hlt
                    have hjm : j < (m.bs.map (·.2)).length := by rw [HEL.out]; exact hlt
                    obtain ⟨a, xo, xc, rfl, hx, hc, hb⟩ := HBRW.out.at hjl
                    have hc2 := cell_same hc HP.out.same
                    have HGE : Hid ((m.bs.map (·.2))[j] = (m.bs[j]).2) := Lib.hid (by simp)
                    have HEJ : Hid ((m.bs[j]).2.length ≤ 470) := Lib.hid (HR.out.each _ (List.getElem_mem hjl))
                    have HTK := Lib.hid (txts_take (m.bs.map (·.2)) j hjm)
                    rw [HGE.out] at HTK
                    have HTL := Lib.hid (txts_take_len (m.bs.map (·.2)) HEA.out j (by omega))
                    have HBB := Lib.hid hb
                    clear hb hc HGE hx
                    generalize (m.bs[j]).2 = x at hc2 HEJ HTK HBB
                    have hjn : (j : Int) < (bn : Int) := by omega
                    have hj0 : (0 : Int) ≤ (j : Int) := by omega
                    clear hjl hjm
                    go_wp2_with fail
                    ((with_reducible refine (text_w w2.heap.size _ x _ _ _ _ HP.out HBB.out (by have := HEJ.out; omega) (by rw [List.length_append]; have := HTL.out; have := HL3'.out; have := HEJ.out; omega)).mono ?_); rintro e w17 ⟨rfl, hp17⟩)
                    have HP17 := Lib.hid hp17
                    rw [List.append_assoc, HTK.out] at HP17
                    clear hp17 hc2
                    go_wp2
                    go_roundw
                    case rel => exact ⟨j + 1, by omega, by go_num, HP17⟩
                    case measure => simp [intOf]; omega
                  · obtain rfl : j = bn := by omega
                    have hjn : ¬ (j : Int) < (j : Int) := by omega
                    have HBODY : Hid (X3 ++ txts (m.bs.map (·.2)) = m.bodyB) := Lib.hid (by
                      rw [← HX3.out, ← HX2.out, ← HX1.out]
                      unfold Msg.bodyB
                      rw [HHN.out, HBN.out])
                    have HP18 : Hid (PenW w2 wr w2.heap.size m.bodyB) := Lib.hid (by
                      have := HP.out
                      rw [List.take_of_length_le (by rw [HEL.out]; exact Nat.le_refl _), HBODY.out] at this
                      exact this)
                    have HBL : Hid (m.bodyB.length ≤ 31073 ∧ 0 < m.bodyB.length) := Lib.hid (by
                      have h1 := txts_take_len (m.bs.map (·.2)) HEA.out j (by omega)
                      rw [List.take_of_length_le (by rw [HEL.out]; exact Nat.le_refl _)] at h1
                      have h2 := HL3'.out
                      rw [← HBODY.out, List.length_append]
                      refine ⟨by omega, ?_⟩
                      rw [← HX3.out, List.length_append, be_length]; omega)
                    obtain ⟨Y, hY⟩ : ∃ Y, m.bodyB = Y := ⟨_, rfl⟩
                    have HFIN : Hid (m.bytes = Y ++ (shaOf Y).take 8) := Lib.hid (by rw [← hY]; rfl)
                    rw [hY] at HP18 HBL
                    obtain ⟨L, hL⟩ : ∃ L, Y.length = L := ⟨_, rfl⟩
                    have HYL := Lib.hid hL
                    rw [hL] at HBL
                    clear hY hL HP HP16 HBODY
                    go_wp2_with fail
                    ((with_reducible refine (data_w w2.heap.size _ _ HP18.out (by have := HYL.out; have := HBL.out; omega)).mono ?_); rintro e w19 ⟨v, rfl, ho19, hk19⟩)
                    rw [HYL.out] at ho19
                    obtain ⟨g7, c7, rfl⟩ : ∃ g7 c7, v = .slice (some ⟨g7, 0, none⟩) L c7 := by
                      rcases ho19.2 with ⟨_, h0⟩ | ⟨g, cp, cur, h, _⟩
                      · have := HBL.out; omega
                      · exact ⟨g, cp, h⟩
                    have HO19 := Lib.hid ho19
                    have HC19 := Lib.hid (own_cap ho19)
                    have HP19 := Lib.hid (HP18.out.same' hk19)
                    have HN19 : Hid (Nums w19) := Lib.hid (HNUM.out.keep (HK2.out.trans (HP18.out.same' hk19).same (fun _ _ e => e)) (fun e => e))
                    clear ho19 hk19 HP18
                    go_wp2_with fail
                    ((with_reducible refine (shaSum_any _ L c7 Y _ (Bytes.of_own' HO19.out HYL.out) HYL.out HC19.out.1 HC19.out.2 (by have := HBL.out; omega) HN19.out).mono ?_); rintro e w20 ⟨rfl, hk20⟩)
                    have HP20 := Lib.hid (HP19.out.same' hk20)
                    clear hk20 HP19 HO19 HC19
                    obtain ⟨w9', hw9⟩ : ∃ w9, (w20.alloc (.cells z32.toArray 32)).setRow w20.heap.size (u8s (shaOf Y)).toArray = w9 := ⟨_, rfl⟩
                    have HW9 := Lib.hid hw9
                    have HN9 : Hid ((w20.alloc (.cells z32.toArray 32)).heap[w20.heap.size]? = some (.cells z32.toArray 32 (0, 0))) := Lib.hid (heap_alloc_new w20 _)
                    have HI9 := Lib.hid (Tryd.sizeHash (shaOf Y) (shaOf_length _))
                    have HZ9 : Hid (z32.toArray.size = (u8s (shaOf Y)).toArray.size) := Lib.hid (size32 (List.replicate 32 0) (shaOf Y) (by simp) (shaOf_length _))
                    have HSL : Hid (((shaOf Y).take 8).length = 8) := Lib.hid (by rw [List.length_take, shaOf_length]; rfl)
                    have HX9 : Hid (Bytes w9' (.slice (some ⟨w20.heap.size, 0, none⟩) 8 32) ((shaOf Y).take 8)) := Lib.hid (by
                      rw [← hw9]
                      have h1 : Bytes ((w20.alloc (.cells z32.toArray 32)).setRow w20.heap.size (u8s (shaOf Y)).toArray) (.slice (some ⟨w20.heap.size, 0, none⟩) (shaOf Y).length 32) (shaOf Y) := Bytes.of_block (Whole.row (cs := z32) (heap_alloc_new w20 _)) (by simp) _ 32 rfl
                      exact Bytes.take h1 8 (by rw [shaOf_length]; omega))
                    have HP9' : Hid (PenW w2 w9' w2.heap.size Y) := Lib.hid (by
                      rw [← hw9]
                      exact HP20.out.keep (S := fun k => k = w20.heap.size) (((Keeps.refl _ _).alloc _).setRow _ _ (.inr rfl)) (fun j e => by omega))
                    clear hw9
                    go_wp2_with (first
                      | (refine wpList_store_row (by rfl) 32 _ _ (by rfl) w20.heap.size (u8s (shaOf Y)).toArray (by rfl) (by rfl) 32 z32.toArray HN9.out HI9.out HZ9.out (u8s_all _) ?_; rw [HW9.out]))
                    ((with_reducible refine (raw_w w2.heap.size _ ((shaOf Y).take 8) _ _ HP9'.out HX9.out (by rw [HSL.out]; have := HYL.out; have := HBL.out; omega)).mono ?_); rintro e w21 ⟨rfl, hp21⟩)
                    rw [← HFIN.out] at hp21
                    have HP21 := Lib.hid hp21
                    have HML : Hid (m.bytes.length ≤ 40000) := Lib.hid (by rw [HFIN.out, List.length_append, HSL.out, HYL.out]; have := HBL.out; omega)
                    clear hp21 HX9 HP9' HW9 HN9
                    go_wp2_with fail
                    ((with_reducible refine (data_w w2.heap.size _ _ HP21.out (by have := HML.out; omega)).mono ?_); rintro e w22 ⟨v, rfl, ho22, hk22⟩)
                    have HO22 : Hid (w22.ownsRow w.heap.size 5 1 v m.bytes.length (u8s m.bytes)) := Lib.hid (own_base ho22 (by have h1 := HK2.out.size; have h2 := HP21.out.same.size; omega))
                    have HK22 : Hid (Same w w22) := Lib.hid ((HK2.out.trans HP21.out.same (fun _ _ e => e)).trans hk22 (fun _ _ e => e))
                    clear ho22 hk22
                    go_wp2
                    go_ret2
                    exact ⟨HK22.out, .inl ⟨HR.out, v, rfl, HO22.out⟩⟩
          have e2 : (m.k == 2) = false := by simpa using k2
          have HAB : Hid (m.ansB = []) := Lib.hid (if_neg k2)
          clear k2
          have HNIL : Hid (Bytes w2 (.slice none 0 0) []) := Lib.hid (Bytes.nil _ _ _)
          go_wp2_with fail
          ((with_reducible refine (text_w w2.heap.size _ [] none 0 0 _ HP9.out HNIL.out (by simp) (by have := HHL9.out; simp only [List.length_nil]; omega)).mono ?_); rintro e w11 ⟨rfl, hp11⟩)
          have HP11 := Lib.hid hp11
          clear hp11
          go_wp2_with fail
          ((with_reducible refine (text_w w2.heap.size _ [] none 0 0 _ HP11.out HNIL.out (by simp) (by have := HHL9.out; simp only [List.length_append, be_length, List.length_nil]; omega)).mono ?_); rintro e w12 ⟨rfl, hp12⟩)
          have HP12 : Hid (PenW w2 w12 w2.heap.size m.frontB) := Lib.hid (by
            unfold Msg.frontB txt
            rw [HOB.out, HAB.out]
            exact hp12)
          clear hp12 HP11 c0 e1 e2
          have HFL : Hid (m.frontB.length ≤ 351) := Lib.hid (HR.out.front_len HHL.out)
          have HB12 : Hid (MsgAt w12 w.heap.size m) := Lib.hid (HB2.out.keep HP12.out.same (fun e => e))
          have c51 : w12.cell? ⟨w.heap.size, 51, none⟩ = some (.slice m.ho m.hs.length m.hcap) := HB12.out.high 12 51 _ rfl rfl
          obtain ⟨hn, hhn⟩ : ∃ n, m.hs.length = n := ⟨_, rfl⟩
          rw [hhn] at c51
          have HHN := Lib.hid hhn
          have hn16 : hn ≤ 16 := by have := HR.out.hs; omega
          have hu : IntKind.u64.wrap (hn : Int) = hn := IntWalk.u64_in (hn : Int) (by omega)
          clear hhn HB12
          go_wp2_with fail
          ((with_reducible refine (uint_w w2.heap.size _ hn 1 _ _ _ HP12.out (by have := HFL.out; omega) (by omega) (by omega) (by omega) (by omega) (by omega)).mono ?_); rintro e w13 ⟨rfl, hp13⟩)
          obtain ⟨X1, hX1⟩ : ∃ X, m.frontB ++ be hn 1 = X := ⟨_, rfl⟩
          have HL1 : Hid (X1.length ≤ 352) := Lib.hid (by rw [← hX1, List.length_append, be_length]; have := HFL.out; omega)
          rw [hX1] at hp13
          have HX1 := Lib.hid hX1
          have HP13 := Lib.hid hp13
          have HB13 : Hid (MsgAt w13 w.heap.size m) := Lib.hid (HB2.out.keep hp13.same (fun e => e))
          have c51 : w13.cell? ⟨w.heap.size, 51, none⟩ = some (.slice m.ho hn m.hcap) := by
            have := HB13.out.high 12 51 _ rfl rfl
            rwa [HHN.out] at this
          obtain ⟨ho, hho⟩ : ∃ x, m.ho = x := ⟨_, rfl⟩
          have HHS : Hid (Hss w2 ho m.hs) := Lib.hid (by rw [← hho]; exact HM2.out.hs)
          rw [hho] at c51
          clear hho hX1 hp13 HP12 HB13
          go_wp2
          clear c51
          go_loopw [102] (fun i wz => ∃ j : Nat, j ≤ hn ∧ i = .int .i64 j ∧ Hid (PenW w2 wz w2.heap.size (X1 ++ (m.hs.take j).flatten))) (fun i _ => hn - (intOf i).toNat)
          case atStart => exact ⟨0, by omega, rfl, Lib.hid (by simpa using HP13.out)⟩
          case round =>
            obtain ⟨j, hj, rfl, HP⟩ := hrel
            by_cases hlt : j < hn
            · have hjl : j < m.hs.length := by rw [HHN.out]; exact hlt
              obtain ⟨g, off, rfl, hra⟩ := (HHS.out.same HP.out.same).at hjl
              have HX : Hid ((m.hs[j]).length = 32) := Lib.hid (HHS.out.1 _ (List.getElem_mem hjl))
              have HTK := Lib.hid (flat_take m.hs j hjl)
              have HTL := Lib.hid (flat32_take m.hs HHS.out.1 j (by omega))
              have HRA := Lib.hid hra
              clear hra
              generalize m.hs[j] = x at HX HTK HRA
              have HI : Hid ((Tryd.prog.info? 32).map (·.size) = some (u8s x).length) := Lib.hid (by rw [u8s_length, HX.out]; exact Tryd.sizeHashW)
              obtain ⟨w9', hw9⟩ : ∃ w9, (wr.alloc (.cells z32.toArray 32)).setRow wr.heap.size (u8s x).toArray = w9 := ⟨_, rfl⟩
              have HW9 := Lib.hid hw9
              have HN9 : Hid ((wr.alloc (.cells z32.toArray 32)).heap[wr.heap.size]? = some (.cells z32.toArray 32 (0, 0))) := Lib.hid (heap_alloc_new wr _)
              have HI9 := Lib.hid (Tryd.sizeHash x HX.out)
              have HZ9 : Hid (z32.toArray.size = (u8s x).toArray.size) := Lib.hid (size32 (List.replicate 32 0) x (by simp) HX.out)
              have HX9 : Hid (Bytes w9' (.slice (some ⟨wr.heap.size, 0, none⟩) 32 32) x) := Lib.hid (by
                rw [← hw9]
                exact Bytes.of_block (Whole.row (cs := z32) (heap_alloc_new wr _)) (by simp) 32 32 HX.out.symm)
              have HP9' : Hid (PenW w2 w9' w2.heap.size (X1 ++ (m.hs.take j).flatten)) := Lib.hid (by
                rw [← hw9]
                exact HP.out.keep (S := fun k => k = wr.heap.size) (((Keeps.refl _ _).alloc _).setRow _ _ (.inr rfl)) (fun j e => by omega))
              have hjn : (j : Int) < (hn : Int) := by omega
              have hj0 : (0 : Int) ≤ (j : Int) := by omega
              clear hw9 hjl
              go_wp2_with (first
                | (refine wpList_load_mid (by rfl) 32 _ (by rfl) g (off + j * 32) (by rfl) (u8s x) _ HRA.out Tryd.underlying32 rfl HI.out ?_)
                | (refine wpList_store_row (by rfl) 32 _ _ (by rfl) wr.heap.size (u8s x).toArray (by rfl) (by rfl) 32 z32.toArray HN9.out HI9.out HZ9.out (u8s_all _) ?_; rw [HW9.out]))
              ((with_reducible refine (raw_w w2.heap.size _ x _ _ HP9'.out HX9.out (by rw [List.length_append, HTL.out]; have := HL1.out; have := HX.out; omega)).mono ?_); rintro e w15 ⟨rfl, hp15⟩)
              have HP15 := Lib.hid hp15
              rw [List.append_assoc, HTK.out] at HP15
              clear hp15 HX9 HP9' HN9 HW9
              go_wp2
              go_roundw
              case rel => exact ⟨j + 1, by omega, by go_num, HP15⟩
              case measure => simp [intOf]; omega
            · obtain rfl : j = hn := by omega
              have hjn : ¬ (j : Int) < (j : Int) := by omega
              have HP14 : Hid (PenW w2 wr w2.heap.size (X1 ++ m.hs.flatten)) := Lib.hid (by
                have := HP.out
                rwa [List.take_of_length_le (by rw [HHN.out]; exact Nat.le_refl _)] at this)
              have HTL : Hid (m.hs.flatten.length ≤ 512) := Lib.hid (by rw [flat32 _ HHS.out.1, HHN.out]; omega)
              obtain ⟨X2, hX2⟩ : ∃ X, X1 ++ m.hs.flatten = X := ⟨_, rfl⟩
              have HL2 : Hid (X2.length ≤ 864) := Lib.hid (by rw [← hX2, List.length_append]; have := HTL.out; have := HL1.out; omega)
              rw [hX2] at HP14
              have HX2 := Lib.hid hX2
              have HB14 : Hid (MsgAt wr w.heap.size m) := Lib.hid (HB2.out.keep HP14.out.same (fun e => e))
              have c52 : wr.cell? ⟨w.heap.size, 52, none⟩ = some (.slice m.bo m.bs.length m.bcap) := HB14.out.high 13 52 _ rfl rfl
              obtain ⟨bn, hbn⟩ : ∃ n, m.bs.length = n := ⟨_, rfl⟩
              rw [hbn] at c52
              have HBN := Lib.hid hbn
              have bn64 : bn ≤ 64 := by have := HR.out.bs; omega
              have hu : IntKind.u64.wrap (bn : Int) = bn := IntWalk.u64_in (bn : Int) (by omega)
              clear hX2 HP HB14
              have HBRW : Hid (Rows2 w2 (.slice m.bo bn m.bcap) m.bs) := Lib.hid (by rw [← hbn]; exact HM2.out.bs)
              clear hbn
              go_wp2_with fail
              ((with_reducible refine (uint_w w2.heap.size _ bn 1 _ _ _ HP14.out (by have := HL2.out; omega) (by omega) (by omega) (by omega) (by omega) (by omega)).mono ?_); rintro e w16 ⟨rfl, hp16⟩)
              obtain ⟨X3, hX3⟩ : ∃ X, X2 ++ be bn 1 = X := ⟨_, rfl⟩
              have HL3' : Hid (X3.length ≤ 865) := Lib.hid (by rw [← hX3, List.length_append, be_length]; have := HL2.out; omega)
              rw [hX3] at hp16
              have HX3 := Lib.hid hX3
              have HP16 := Lib.hid hp16
              have HB16 : Hid (MsgAt w16 w.heap.size m) := Lib.hid (HB2.out.keep hp16.same (fun e => e))
              have c52 : w16.cell? ⟨w.heap.size, 52, none⟩ = some (.slice m.bo bn m.bcap) := by
                have := HB16.out.high 13 52 _ rfl rfl
                rwa [HBN.out] at this
              obtain ⟨bo, hbo⟩ : ∃ x, m.bo = x := ⟨_, rfl⟩
              rw [hbo] at c52 HBRW
              clear hbo hX3 hp16 HP14 HB16
              go_wp2
              clear c52
              have HEL : Hid ((m.bs.map (·.2)).length = bn) := Lib.hid (by rw [List.length_map, HBN.out])
              have HEA : Hid (∀ b ∈ m.bs.map (·.2), b.length ≤ 470) := Lib.hid (fun b hb => by
                obtain ⟨r, h1, rfl⟩ := List.mem_map.1 hb
                exact HR.out.each r h1)
              go_loopw [119] (fun i wz => ∃ j : Nat, j ≤ bn ∧ i = .int .i64 j ∧ Hid (PenW w2 wz w2.heap.size (X3 ++ txts ((m.bs.map (·.2)).take j)))) (fun i _ => bn - (intOf i).toNat)
              case atStart => exact ⟨0, by omega, rfl, Lib.hid (by simpa [txts] using HP16.out)⟩
              case round =>
                obtain ⟨j, hj, rfl, HP⟩ := hrel
                by_cases hlt : j < bn
                · have hjl : j < m.bs.length := by rw [HBN.out]; exact hlt
                  have hjm : j < (m.bs.map (·.2)).length := by rw [HEL.out]; exact hlt
                  obtain ⟨a, xo, xc, rfl, hx, hc, hb⟩ := HBRW.out.at hjl
                  have hc2 := cell_same hc HP.out.same
                  have HGE : Hid ((m.bs.map (·.2))[j] = (m.bs[j]).2) := Lib.hid (by simp)
                  have HEJ : Hid ((m.bs[j]).2.length ≤ 470) := Lib.hid (HR.out.each _ (List.getElem_mem hjl))
                  have HTK := Lib.hid (txts_take (m.bs.map (·.2)) j hjm)
                  rw [HGE.out] at HTK
                  have HTL := Lib.hid (txts_take_len (m.bs.map (·.2)) HEA.out j (by omega))
                  have HBB := Lib.hid hb
                  clear hb hc HGE hx
                  generalize (m.bs[j]).2 = x at hc2 HEJ HTK HBB
                  have hjn : (j : Int) < (bn : Int) := by omega
                  have hj0 : (0 : Int) ≤ (j : Int) := by omega
                  clear hjl hjm
                  go_wp2_with fail
                  ((with_reducible refine (text_w w2.heap.size _ x _ _ _ _ HP.out HBB.out (by have := HEJ.out; omega) (by rw [List.length_append]; have := HTL.out; have := HL3'.out; have := HEJ.out; omega)).mono ?_); rintro e w17 ⟨rfl, hp17⟩)
                  have HP17 := Lib.hid hp17
                  rw [List.append_assoc, HTK.out] at HP17
                  clear hp17 hc2
                  go_wp2
                  go_roundw
                  case rel => exact ⟨j + 1, by omega, by go_num, HP17⟩
                  case measure => simp [intOf]; omega
                · obtain rfl : j = bn := by omega
                  have hjn : ¬ (j : Int) < (j : Int) := by omega
                  have HBODY : Hid (X3 ++ txts (m.bs.map (·.2)) = m.bodyB) := Lib.hid (by
                    rw [← HX3.out, ← HX2.out, ← HX1.out]
                    unfold Msg.bodyB
                    rw [HHN.out, HBN.out])
                  have HP18 : Hid (PenW w2 wr w2.heap.size m.bodyB) := Lib.hid (by
                    have := HP.out
                    rw [List.take_of_length_le (by rw [HEL.out]; exact Nat.le_refl _), HBODY.out] at this
                    exact this)
                  have HBL : Hid (m.bodyB.length ≤ 31073 ∧ 0 < m.bodyB.length) := Lib.hid (by
                    have h1 := txts_take_len (m.bs.map (·.2)) HEA.out j (by omega)
                    rw [List.take_of_length_le (by rw [HEL.out]; exact Nat.le_refl _)] at h1
                    have h2 := HL3'.out
                    rw [← HBODY.out, List.length_append]
                    refine ⟨by omega, ?_⟩
                    rw [← HX3.out, List.length_append, be_length]; omega)
                  obtain ⟨Y, hY⟩ : ∃ Y, m.bodyB = Y := ⟨_, rfl⟩
                  have HFIN : Hid (m.bytes = Y ++ (shaOf Y).take 8) := Lib.hid (by rw [← hY]; rfl)
                  rw [hY] at HP18 HBL
                  obtain ⟨L, hL⟩ : ∃ L, Y.length = L := ⟨_, rfl⟩
                  have HYL := Lib.hid hL
                  rw [hL] at HBL
                  clear hY hL HP HP16 HBODY
                  go_wp2_with fail
                  ((with_reducible refine (data_w w2.heap.size _ _ HP18.out (by have := HYL.out; have := HBL.out; omega)).mono ?_); rintro e w19 ⟨v, rfl, ho19, hk19⟩)
                  rw [HYL.out] at ho19
                  obtain ⟨g7, c7, rfl⟩ : ∃ g7 c7, v = .slice (some ⟨g7, 0, none⟩) L c7 := by
                    rcases ho19.2 with ⟨_, h0⟩ | ⟨g, cp, cur, h, _⟩
                    · have := HBL.out; omega
                    · exact ⟨g, cp, h⟩
                  have HO19 := Lib.hid ho19
                  have HC19 := Lib.hid (own_cap ho19)
                  have HP19 := Lib.hid (HP18.out.same' hk19)
                  have HN19 : Hid (Nums w19) := Lib.hid (HNUM.out.keep (HK2.out.trans (HP18.out.same' hk19).same (fun _ _ e => e)) (fun e => e))
                  clear ho19 hk19 HP18
                  go_wp2_with fail
                  ((with_reducible refine (shaSum_any _ L c7 Y _ (Bytes.of_own' HO19.out HYL.out) HYL.out HC19.out.1 HC19.out.2 (by have := HBL.out; omega) HN19.out).mono ?_); rintro e w20 ⟨rfl, hk20⟩)
                  have HP20 := Lib.hid (HP19.out.same' hk20)
                  clear hk20 HP19 HO19 HC19
                  obtain ⟨w9', hw9⟩ : ∃ w9, (w20.alloc (.cells z32.toArray 32)).setRow w20.heap.size (u8s (shaOf Y)).toArray = w9 := ⟨_, rfl⟩
                  have HW9 := Lib.hid hw9
                  have HN9 : Hid ((w20.alloc (.cells z32.toArray 32)).heap[w20.heap.size]? = some (.cells z32.toArray 32 (0, 0))) := Lib.hid (heap_alloc_new w20 _)
                  have HI9 := Lib.hid (Tryd.sizeHash (shaOf Y) (shaOf_length _))
                  have HZ9 : Hid (z32.toArray.size = (u8s (shaOf Y)).toArray.size) := Lib.hid (size32 (List.replicate 32 0) (shaOf Y) (by simp) (shaOf_length _))
                  have HSL : Hid (((shaOf Y).take 8).length = 8) := Lib.hid (by rw [List.length_take, shaOf_length]; rfl)
                  have HX9 : Hid (Bytes w9' (.slice (some ⟨w20.heap.size, 0, none⟩) 8 32) ((shaOf Y).take 8)) := Lib.hid (by
                    rw [← hw9]
                    have h1 : Bytes ((w20.alloc (.cells z32.toArray 32)).setRow w20.heap.size (u8s (shaOf Y)).toArray) (.slice (some ⟨w20.heap.size, 0, none⟩) (shaOf Y).length 32) (shaOf Y) := Bytes.of_block (Whole.row (cs := z32) (heap_alloc_new w20 _)) (by simp) _ 32 rfl
                    exact Bytes.take h1 8 (by rw [shaOf_length]; omega))
                  have HP9' : Hid (PenW w2 w9' w2.heap.size Y) := Lib.hid (by
                    rw [← hw9]
                    exact HP20.out.keep (S := fun k => k = w20.heap.size) (((Keeps.refl _ _).alloc _).setRow _ _ (.inr rfl)) (fun j e => by omega))
                  clear hw9
                  go_wp2_with (first
                    | (refine wpList_store_row (by rfl) 32 _ _ (by rfl) w20.heap.size (u8s (shaOf Y)).toArray (by rfl) (by rfl) 32 z32.toArray HN9.out HI9.out HZ9.out (u8s_all _) ?_; rw [HW9.out]))
                  ((with_reducible refine (raw_w w2.heap.size _ ((shaOf Y).take 8) _ _ HP9'.out HX9.out (by rw [HSL.out]; have := HYL.out; have := HBL.out; omega)).mono ?_); rintro e w21 ⟨rfl, hp21⟩)
                  rw [← HFIN.out] at hp21
                  have HP21 := Lib.hid hp21
                  have HML : Hid (m.bytes.length ≤ 40000) := Lib.hid (by rw [HFIN.out, List.length_append, HSL.out, HYL.out]; have := HBL.out; omega)
                  clear hp21 HX9 HP9' HW9 HN9
                  go_wp2_with fail
                  ((with_reducible refine (data_w w2.heap.size _ _ HP21.out (by have := HML.out; omega)).mono ?_); rintro e w22 ⟨v, rfl, ho22, hk22⟩)
                  have HO22 : Hid (w22.ownsRow w.heap.size 5 1 v m.bytes.length (u8s m.bytes)) := Lib.hid (own_base ho22 (by have h1 := HK2.out.size; have h2 := HP21.out.same.size; omega))
                  have HK22 : Hid (Same w w22) := Lib.hid ((HK2.out.trans HP21.out.same (fun _ _ e => e)).trans hk22 (fun _ _ e => e))
                  clear ho22 hk22
                  go_wp2
                  go_ret2
                  exact ⟨HK22.out, .inl ⟨HR.out, v, rfl, HO22.out⟩⟩
end Go.Proofs.YtafgiljgefeefaaDoor
