/- A message as cells. -/
import Derived.Test.YtlglkkoippoafaaOp2
import Derived.Test.YtlglkkoippoafaaAns2
import Derived.Test.YtlglkkoippoafaaWhole
import Derived.Test.YtlglkkoippoafaaRows2
import Derived.Test.YtlglkkoippoafaaArr
import Derived.Test.YtlglkkoippoafaaPlan5
namespace Go.Proofs.Ytlglkkoippoafaa
open Go.RowKit
set_option linter.unusedVariables false

/-- A slice of digests. -/
def Hss (w : World) (ao : Option Addr) (hs : List (List UInt8)) : Prop := (∀ h ∈ hs, h.length = 32) ∧ (hs = [] ∨ ∃ g off, ao = some ⟨g, off, none⟩ ∧ ∀ j (h : j < hs.length), w.rangeAt g (off + j * 32) (u8s hs[j]))
theorem rangeW_same {w w' : World} {g o : Nat} {cs : List Value} (h : w.rangeAt g o cs) (k : Same w w') : w'.rangeAt g o cs := fun j v hj => by
  have h1 := h j v hj
  have hb := World.block_lt_of_cell? w _ h1
  exact (World.cell?_of_block (w := w) (a := ⟨g, o + j, none⟩) (k.block g hb (fun e => e))).trans h1
theorem Hss.same {w w' : World} {ao : Option Addr} {hs : List (List UInt8)} (h : Hss w ao hs) (k : Same w w') : Hss w' ao hs := by
  refine ⟨h.1, ?_⟩
  rcases h.2 with h2 | ⟨g, off, e, h2⟩
  · exact .inl h2
  · exact .inr ⟨g, off, e, fun j hj => rangeW_same (h2 j hj) k⟩
theorem Hss.at {w : World} {ao : Option Addr} {hs : List (List UInt8)} (h : Hss w ao hs) {j : Nat} (hj : j < hs.length) : ∃ g off, ao = some ⟨g, off, none⟩ ∧ w.rangeAt g (off + j * 32) (u8s hs[j]) := by
  rcases h.2 with h2 | ⟨g, off, e, h2⟩
  · subst h2; simp at hj
  · exact ⟨g, off, e, h2 j hj⟩

/-- A message: its cells, and what its slices read as. -/
structure Msg where
  k : Int
  f : Int
  t : Int
  v : Nat
  n : Nat
  g : Nat
  c : Nat
  hd : List UInt8
  cl : Int
  nr : Nat
  ok : Int
  p : ByteArray
  q : ByteArray
  off : Int
  on : Int
  oo : Option Addr
  oc : Nat
  od : List UInt8
  ac : Int
  an : Int
  ao : Option Addr
  acap : Nat
  ad : List UInt8
  no : Option Addr
  ncap : Nat
  ns : List ByteArray
  ho : Option Addr
  hcap : Nat
  hs : List (List UInt8)
  bo : Option Addr
  bcap : Nat
  bs : List (Value × List UInt8)
def Msg.nums (m : Msg) : List Value := [.int .i64 m.k, .int .i64 m.f, .int .i64 m.t, .int .u64 m.v, .int .u64 m.n, .int .u64 m.g, .int .u64 m.c]
def Msg.op (m : Msg) : List Value := [.int .i64 m.ok, .string m.p, .string m.q, .int .i64 m.off, .int .i64 m.on, .slice m.oo m.od.length m.oc]
def Msg.call (m : Msg) : List Value := [.int .i64 m.cl, .int .u64 m.nr, .int .i64 m.ok, .string m.p, .string m.q, .int .i64 m.off, .int .i64 m.on, .slice m.oo m.od.length m.oc]
def Msg.ans (m : Msg) : List Value := [.int .i64 m.ac, .int .i64 m.an, .slice m.ao m.ad.length m.acap, .slice m.no m.ns.length m.ncap]
def Msg.ends (m : Msg) : List Value := [.slice m.ho m.hs.length m.hcap, .slice m.bo m.bs.length m.bcap]
def Msg.cells (m : Msg) : List Value := m.nums ++ (u8s m.hd ++ (m.call ++ (m.ans ++ m.ends)))
structure MsgIn (w : World) (m : Msg) : Prop where
  hd : m.hd.length = 32
  od : Bytes w (.slice m.oo m.od.length m.oc) m.od
  ad : Bytes w (.slice m.ao m.ad.length m.acap) m.ad
  ns : Strs w (.slice m.no m.ns.length m.ncap) m.ns
  hs : Hss w m.ho m.hs
  bs : Rows2 w (.slice m.bo m.bs.length m.bcap) m.bs
  ro : Reads w (.slice m.oo m.od.length m.oc) m.od
  ra : Reads w (.slice m.ao m.ad.length m.acap) m.ad
  rb : ∀ r ∈ m.bs, Reads w r.1 r.2
  cp : m.oc ≤ 9223372036854775807 ∧ m.acap ≤ 9223372036854775807 ∧ m.ns.length ≤ m.ncap ∧ m.ncap ≤ 9223372036854775807 ∧ m.hs.length ≤ m.hcap ∧ m.hcap ≤ 9223372036854775807 ∧ m.bs.length ≤ m.bcap ∧ m.bcap ≤ 9223372036854775807
  nm : m.v < 18446744073709551616 ∧ m.n < 18446744073709551616 ∧ m.g < 18446744073709551616 ∧ m.c < 18446744073709551616 ∧ m.nr < 18446744073709551616
theorem MsgIn.same {w w' : World} {m : Msg} (h : MsgIn w m) (k : Same w w') : MsgIn w' m := ⟨h.hd, h.od.same k, h.ad.same k, h.ns.same k, h.hs.same k, h.bs.same k, h.ro.same k, h.ra.same k, fun r hr => (h.rb r hr).same k, h.cp, h.nm⟩

theorem Msg.cells_length (m : Msg) (h : m.hd.length = 32) : m.cells.length = 53 := by
  simp [Msg.cells, Msg.nums, Msg.call, Msg.ans, Msg.ends, u8s_length, h]
theorem Msg.cells_all (m : Msg) : m.cells.toArray.all (·.oneCell') = true := by
  simp [Msg.cells, Msg.nums, Msg.call, Msg.ans, Msg.ends, Value.oneCell', u8s]
theorem Try.sizeMsg : (Try.prog.info? 45).map (·.size) = some 53 := by kernel_rfl
theorem Try.sizeMsgOf (m : Msg) (h : m.hd.length = 32) : (Try.prog.info? 45).map (·.size) = some m.cells.toArray.size := by
  rw [List.size_toArray, m.cells_length h]; exact Try.sizeMsg
theorem Try.sizeCallW : (Try.prog.info? 38).map (·.size) = some 8 := by kernel_rfl
theorem Try.sizeOpW : (Try.prog.info? 32).map (·.size) = some 6 := by kernel_rfl
theorem Try.sizeAnsW : (Try.prog.info? 41).map (·.size) = some 4 := by kernel_rfl
theorem Try.sizeHashW : (Try.prog.info? 36).map (·.size) = some 32 := by kernel_rfl

/-- Where a message's cells lie. -/
theorem Msg.at_low (m : Msg) (i : Nat) (h : i < 7) : m.cells[i]? = m.nums[i]? := by
  rw [Msg.cells, List.getElem?_append_left (by simpa [Msg.nums] using h)]
theorem Msg.drop39 (m : Msg) (h : m.hd.length = 32) : m.cells.drop 39 = m.call ++ (m.ans ++ m.ends) := by
  rw [Msg.cells, ← List.append_assoc, List.drop_append_of_le_length (by simp [Msg.nums, u8s_length, h]), List.drop_of_length_le (by simp [Msg.nums, u8s_length, h]), List.nil_append]
theorem Msg.at_high (m : Msg) (h : m.hd.length = 32) (i : Nat) : m.cells[39 + i]? = (m.call ++ (m.ans ++ m.ends))[i]? := by
  rw [← m.drop39 h, List.getElem?_drop]
/-- A message's block. -/
def MsgAt (w : World) (B : Nat) (m : Msg) : Prop := Whole w B 45 m.cells ∧ m.hd.length = 32
theorem MsgAt.keep {S : Nat → Prop} {w w' : World} {B : Nat} {m : Msg} (h : MsgAt w B m) (k : Keeps S w w') (hB : ¬ S B) : MsgAt w' B m := ⟨h.1.keep k hB, h.2⟩
theorem MsgAt.low {w : World} {B : Nat} {m : Msg} (h : MsgAt w B m) (i : Nat) (v : Value) (hi : i < 7) (hv : m.nums[i]? = some v) : w.cell? ⟨B, i, none⟩ = some v := h.1.cell (by rw [m.at_low i hi]; exact hv)
theorem MsgAt.high {w : World} {B : Nat} {m : Msg} (h : MsgAt w B m) (i j : Nat) (v : Value) (hj : j = 39 + i) (hv : (m.call ++ (m.ans ++ m.ends))[i]? = some v) : w.cell? ⟨B, j, none⟩ = some v := by
  subst hj; exact h.1.cell (by rw [m.at_high h.2]; exact hv)
theorem MsgAt.rangeOf {w : World} {B : Nat} {m : Msg} (h : MsgAt w B m) (o : Nat) (cs : List Value) (hc : ∀ j v, cs[j]? = some v → m.cells[o + j]? = some v) : w.rangeAt B o cs := fun j v hj => h.1.cell (hc j v hj)
theorem MsgAt.callR {w : World} {B : Nat} {m : Msg} (h : MsgAt w B m) : w.rangeAt B 39 m.call := h.rangeOf 39 m.call (fun j v hj => by
  rw [m.at_high h.2, List.getElem?_append_left (List.getElem?_eq_some_iff.1 hj).1]; exact hj)
theorem MsgAt.opR {w : World} {B : Nat} {m : Msg} (h : MsgAt w B m) : w.rangeAt B 41 m.op := h.rangeOf 41 m.op (fun j v hj => by
  have hl : j < 6 := (List.getElem?_eq_some_iff.1 hj).1
  rw [show 41 + j = 39 + (2 + j) by omega, m.at_high h.2, List.getElem?_append_left (by simp [Msg.call]; omega)]
  rw [show m.call = [.int .i64 m.cl, .int .u64 m.nr] ++ m.op from rfl, List.getElem?_append_right (by simp)]
  simpa using hj)
theorem MsgAt.ansR {w : World} {B : Nat} {m : Msg} (h : MsgAt w B m) : w.rangeAt B 47 m.ans := h.rangeOf 47 m.ans (fun j v hj => by
  rw [show 47 + j = 39 + (8 + j) by omega, m.at_high h.2, List.getElem?_append_right (by simp [Msg.call]), List.getElem?_append_left (by have := (List.getElem?_eq_some_iff.1 hj).1; simp [Msg.call]; exact this)]
  simpa [Msg.call] using hj)
theorem MsgAt.hdR {w : World} {B : Nat} {m : Msg} (h : MsgAt w B m) : w.rangeAt B 7 (u8s m.hd) := h.rangeOf 7 (u8s m.hd) (fun j v hj => by
  have hl := (List.getElem?_eq_some_iff.1 hj).1
  rw [Msg.cells, List.getElem?_append_right (by simp [Msg.nums]), List.getElem?_append_left (by simpa [Msg.nums] using hl)]
  simpa [Msg.nums] using hj)
theorem MsgAt.new (w : World) (m : Msg) (h : m.hd.length = 32) : MsgAt (w.alloc (.cells m.cells.toArray 45)) w.heap.size m := ⟨heap_alloc_new w _, h⟩

def OpBlank (k off n : Int) (p t : ByteArray) (len : Nat) : Prop := k = 0 ∧ p = ⟨#[]⟩ ∧ t = ⟨#[]⟩ ∧ off = 0 ∧ n = 0 ∧ len = 0
def AnsBlank (c n : Int) (len nl : Nat) : Prop := c = 0 ∧ n = 0 ∧ len = 0 ∧ nl = 0
instance (k off n : Int) (p t : ByteArray) (len : Nat) : Decidable (OpBlank k off n p t len) := by unfold OpBlank; infer_instance
instance (c n : Int) (len nl : Nat) : Decidable (AnsBlank c n len nl) := by unfold AnsBlank; infer_instance
def Msg.CallOk (m : Msg) : Prop :=
  if m.k = 1 then (0 ≤ m.cl ∧ m.cl ≤ 3) ∧ m.nr ≠ 0 ∧ OpRight m.ok m.off m.on m.p m.q m.od.length
  else if m.k = 2 then (0 ≤ m.cl ∧ m.cl ≤ 3) ∧ m.nr ≠ 0 ∧ OpBlank m.ok m.off m.on m.p m.q m.od.length
  else m.cl = 0 ∧ m.nr = 0 ∧ OpBlank m.ok m.off m.on m.p m.q m.od.length
def Msg.AnsOk (m : Msg) : Prop := if m.k = 2 then AnsRight m.ac m.an m.ad.length m.ns else AnsBlank m.ac m.an m.ad.length m.ns.length
structure Msg.Right (m : Msg) : Prop where
  kind : 1 ≤ m.k ∧ m.k ≤ 8
  frm : 0 ≤ m.f ∧ m.f ≤ 255
  to : 0 ≤ m.t ∧ m.t ≤ 255
  call : m.CallOk
  ans : m.AnsOk
  hs : m.hs.length ≤ 16
  bs : m.bs.length ≤ 64
  each : ∀ b ∈ m.bs, b.2.length ≤ 470
end Go.Proofs.Ytlglkkoippoafaa
