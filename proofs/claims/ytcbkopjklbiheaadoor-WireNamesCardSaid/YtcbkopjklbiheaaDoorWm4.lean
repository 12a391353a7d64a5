/- A pen beside things that were made after it; a message as bytes; wire.numbers. -/
import Derived.Test.YtcbkopjklbiheaaDoorWm3
import Derived.Test.YtcbkopjklbiheaaDoorPenW
import Derived.Test.YtcbkopjklbiheaaDoorSha8
import Derived.Test.YtcbkopjklbiheaaDoorZero32
namespace Go.Proofs.YtcbkopjklbiheaaDoor
open Go.RowKit
set_option linter.unusedVariables false

/-- Block B is a pen made since w0; the blocks of F, which are not its own, are as they were in wa. -/
structure PenG (w0 wa w : World) (F : Nat → Prop) (B : Nat) (bs : List UInt8) : Prop where
  ex : ∃ base row, Pen 55 5 w B base row bs ∧ ∀ j, row = some j → ¬ F j
  same : Same w0 w
  new : w0.heap.size ≤ B
  apart : ¬ F B
  far : Keeps (fun k => ¬ F k) wa w
  lt : ∀ k, F k → k < wa.heap.size
theorem PenG.toW {w0 wa w : World} {F : Nat → Prop} {B : Nat} {bs : List UInt8} (h : PenG w0 wa w F B bs) : PenW w0 w B bs := by
  obtain ⟨base, row, hp, _⟩ := h.ex
  exact ⟨⟨base, row, hp⟩, h.same, h.new⟩
theorem PenW.toG {w0 w wa : World} {B : Nat} {bs : List UInt8} (h : PenW w0 w B bs) (k : Same w wa) : PenG w0 wa wa (fun j => w.heap.size ≤ j ∧ j < wa.heap.size) B bs := by
  obtain ⟨base, row, hp⟩ := h.ex
  refine ⟨⟨base, row, hp.keeps k (fun e => e) (fun _ _ e => e), fun j e hf => ?_⟩, h.same.trans k (fun _ _ e => e), h.new, fun hf => ?_, Keeps.refl _ _, fun k hk => hk.2⟩
  · have := (hp.row_lt j e).2; omega
  · have := hp.lt; have := hp.hb; omega
theorem PenG.stepOf {w0 wa w w' : World} {F : Nat → Prop} {B base : Nat} {row : Option Nat} {bs more : List UInt8} (h : PenG w0 wa w F B bs) (hp : Pen 55 5 w B base row bs) (hr : ∀ j, row = some j → ¬ F j)
    (hs : Step 55 5 w w' B base row bs more) : PenG w0 wa w' F B (bs ++ more) := by
  have hw := PenW.step hp h.same h.new hs
  obtain ⟨row', hp', hk', hm'⟩ := hs.ex
  refine ⟨⟨base, row', hp', fun j e hf => ?_⟩, hw.same, h.new, h.apart, h.far.trans hk' (fun j hj e hf => ?_), h.lt⟩
  · rcases hm' with rfl | ⟨g, rfl, hg⟩
    · exact hr j e hf
    · simp only [Option.some.injEq] at e
      have := h.lt j hf
      have := h.far.size
      omega
  · rcases e with e | e
    · subst e; exact h.apart hf
    · exact hr j e hf
theorem PenG.keep {w0 wa w w' : World} {F : Nat → Prop} {B : Nat} {bs : List UInt8} (h : PenG w0 wa w F B bs) (k : Same w w') : PenG w0 wa w' F B bs := by
  obtain ⟨base, row, hp, hr⟩ := h.ex
  exact ⟨⟨base, row, hp.keeps k (fun e => e) (fun _ _ e => e), hr⟩, h.same.trans k (fun _ _ e => e), h.new, h.apart, h.far.trans k (fun _ _ e => e.elim), h.lt⟩
theorem uint_g {w0 wa : World} {F : Nat → Prop} (B : Nat) (bs : List UInt8) (n size : Nat) (N S : Int) (w : World) (h : PenG w0 wa w F B bs) (hl : bs.length + 8 ≤ 140737488351232) (h1 : 1 ≤ size) (h2 : size ≤ 8) (hn : n < 256 ^ size) (hN : N = (n : Int)) (hS : S = (size : Int)) :
    Calls Tryd.prog 17 #[.pointer (some ⟨B, 0, none⟩), .int .u64 N, .int .i64 S] w fun e w' => e = .returned (.int .i64 0) ∧ PenG w0 wa w' F B (bs ++ be n size) := by
  obtain ⟨base, row, hp, hr⟩ := h.ex
  exact (uint_ok' B base row bs n size N S w hp hl h1 h2 hn hN hS).mono fun e w' ⟨he, hs⟩ => ⟨he, h.stepOf hp hr hs⟩
/-- A slice of bytes that a pen may write: of the world ahead, or of the blocks that it leaves alone. -/
def Beside (wa : World) (F : Nat → Prop) (x : Value) (bs : List UInt8) : Prop := Bytes wa x bs ∧ ∀ a n c, x = .slice (some a) n c → bs ≠ [] → F a.block
theorem text_g {w0 wa : World} {F : Nat → Prop} (B : Nat) (bs more : List UInt8) (x : Value) (w : World) (h : PenG w0 wa w F B bs) (hx : Beside wa F x more) (hm : more.length ≤ 65535) (hl : bs.length + more.length + 8 ≤ 140737488351232) :
    Calls Tryd.prog 22 #[.pointer (some ⟨B, 0, none⟩), x] w fun e w' => e = .returned (.int .i64 0) ∧ PenG w0 wa w' F B (bs ++ (be more.length 2 ++ more)) := by
  obtain ⟨base, row, hp, hr⟩ := h.ex
  have hb : Bytes w x more := by
    by_cases h0 : more = []
    · subst h0
      obtain ⟨ao, c, rfl⟩ := hx.1.form
      exact Bytes.nil _ _ _
    · exact hx.1.keeps h.far (fun a n c e hne => hne (hx.2 a n c e h0))
  refine (text_ok B base row bs more x w hp hb hm (fun a m d e h0 => ?_) hl).mono fun e w' ⟨he, hs⟩ => ⟨he, h.stepOf hp hr hs⟩
  have hf := hx.2 a m d e h0
  exact ⟨fun e2 => h.apart (e2 ▸ hf), fun e2 => hr _ e2 hf⟩
theorem Beside.nil (wa : World) (F : Nat → Prop) : Beside wa F (.slice none 0 0) [] := ⟨Bytes.nil _ _ _, fun a n c e h => absurd rfl h⟩
theorem Beside.own {w wa : World} {e : TypeId} {v : Value} {n : Nat} {bs : List UInt8} (h : wa.ownsRow w.heap.size e 1 v n (u8s bs)) (hn : bs.length = n) : Beside wa (fun j => w.heap.size ≤ j ∧ j < wa.heap.size) v bs := by
  refine ⟨Bytes.of_own' h hn, fun a m c e hne => ?_⟩
  rcases h.2 with ⟨rfl, h0⟩ | ⟨g, cap, cur, rfl, _, _⟩
  · cases e
  · simp only [Value.slice.injEq, Option.some.injEq] at e
    obtain ⟨rfl, _, _⟩ := e
    have := h.lt g rfl
    exact this

def ptrs4 (B : Nat) : List Value := [.pointer (some ⟨B, 3, none⟩), .pointer (some ⟨B, 4, none⟩), .pointer (some ⟨B, 5, none⟩), .pointer (some ⟨B, 6, none⟩)]
theorem ptrs4_get (B k : Nat) (h : k < 4) : (ptrs4 B)[k]? = some (.pointer (some ⟨B, 3 + k, none⟩)) := by
  match k, h with
  | 0, _ => rfl
  | 1, _ => rfl
  | 2, _ => rfl
  | 3, _ => rfl
set_option maxRecDepth 100000 in
set_option maxHeartbeats 3200000 in
theorem numbersW_any (B : Nat) (w : World) :
    Calls Tryd.prog 18 #[.pointer (some ⟨B, 0, none⟩)] w fun e w' => ∃ R, e = .returned (.slice (some ⟨R, 0, none⟩) 4 4) ∧ Whole w' R 61 (ptrs4 B) ∧ Same w w' ∧ w.heap.size ≤ R := by
  go_enter Tryd.func18, Tryd.ntmps18
  go_wp2
  go_region
  go_wp2
  go_ret
  exact ⟨w.heap.size, rfl, heap_alloc_new w _, ((Keeps.refl _ _).alloc _).drew, Nat.le_refl _⟩

def Msg.four (m : Msg) : List Nat := [3, m.k.toNat, m.f.toNat, m.t.toNat]
def Msg.eight (m : Msg) : List Nat := [m.v, m.n, m.g, m.c]
def flatN (l : List Nat) (s k : Nat) : List UInt8 := (l.take k).flatMap fun n => be n s
theorem flatN_succ (l : List Nat) (s k : Nat) (h : k < l.length) : flatN l s k ++ be (l.getD k 0) s = flatN l s (k + 1) := by
  unfold flatN
  rw [List.take_add_one, List.getElem?_eq_getElem h, List.flatMap_append]
  simp [List.getD, List.getElem?_eq_getElem h]
theorem flatN_length (l : List Nat) (s k : Nat) (h : k ≤ l.length) : (flatN l s k).length = s * k := by
  unfold flatN
  rw [List.length_flatMap]
  have : ((l.take k).map fun n => (be n s).length) = List.replicate k s := by
    apply List.ext_getElem
    · simp; omega
    · intro i h1 h2; simp [be_length]
  rw [this]
  simp [Nat.mul_comm]
def Msg.opB (m : Msg) : List UInt8 := if m.k = 1 then opBytes m.ok m.off m.on m.p m.q m.od else []
def Msg.ansB (m : Msg) : List UInt8 := if m.k = 2 then ansBytes m.ac m.an m.ad m.ns else []
def txt (b : List UInt8) : List UInt8 := be b.length 2 ++ b
def txts (l : List (List UInt8)) : List UInt8 := l.flatMap txt
/-- A message's bytes ahead of the hashes. -/
def Msg.headB (m : Msg) : List UInt8 := flatN m.four 1 4 ++ flatN m.eight 8 4 ++ m.hd ++ be m.cl.toNat 1 ++ be m.nr 8
def Msg.frontB (m : Msg) : List UInt8 := m.headB ++ txt m.opB ++ txt m.ansB
def Msg.bodyB (m : Msg) : List UInt8 := m.frontB ++ be m.hs.length 1 ++ m.hs.flatten ++ be m.bs.length 1 ++ txts (m.bs.map (·.2))
def Msg.bytes (m : Msg) : List UInt8 := m.bodyB ++ (shaOf m.bodyB).take 8
theorem Msg.headB_length (m : Msg) (h : m.hd.length = 32) : m.headB.length = 77 := by
  unfold Msg.headB
  simp only [List.length_append, be_length, flatN_length m.four 1 4 (by simp [Msg.four]), flatN_length m.eight 8 4 (by simp [Msg.eight]), h]
theorem Msg.Right.clr {m : Msg} (h : m.Right) : 0 ≤ m.cl ∧ m.cl ≤ 3 := by
  have := h.call
  unfold Msg.CallOk at this
  split at this
  · exact this.1
  · split at this
    · exact this.1
    · omega
theorem Msg.Right.opOk {m : Msg} (h : m.Right) (hk : m.k = 1) : OpRight m.ok m.off m.on m.p m.q m.od.length := by
  have := h.call
  unfold Msg.CallOk at this
  rw [if_pos hk] at this
  exact this.2.2
theorem Msg.Right.ansR {m : Msg} (h : m.Right) (hk : m.k = 2) : AnsRight m.ac m.an m.ad.length m.ns := by
  have := h.ans
  unfold Msg.AnsOk at this
  rwa [if_pos hk] at this
theorem Msg.Right.op_len {m : Msg} (h : m.Right) : m.opB.length ≤ 139 := by
  unfold Msg.opB
  split
  · rename_i hk
    obtain ⟨_, _, h3, h4, _, _, h7⟩ := h.opOk hk
    rw [opBytes_length]; omega
  · simp
theorem Msg.Right.ans_len {m : Msg} (h : m.Right) : m.ansB.length ≤ 131 := by
  unfold Msg.ansB
  split
  · rename_i hk
    obtain ⟨_, _, h3, h4, h5⟩ := h.ansR hk
    have := texts_length m.ns h5
    rw [ansBytes, List.length_append, ansHead_length]; omega
  · simp
theorem flat32 : ∀ (l : List (List UInt8)), (∀ h ∈ l, h.length = 32) → l.flatten.length = 32 * l.length
  | [], _ => rfl
  | x :: r, h => by
    rw [List.flatten_cons, List.length_append, h x (by simp), flat32 r (fun y hy => h y (by simp [hy])), List.length_cons]; omega
theorem txts_len : ∀ (l : List (List UInt8)), (∀ b ∈ l, b.length ≤ 470) → (txts l).length ≤ 472 * l.length
  | [], _ => by simp [txts]
  | x :: r, h => by
    have h1 := h x (by simp)
    have h2 := txts_len r (fun y hy => h y (by simp [hy]))
    simp only [txts, txt, List.flatMap_cons, List.length_append, be_length, List.length_cons] at h2 ⊢
    omega
theorem Msg.Right.front_len {m : Msg} (h : m.Right) (hd : m.hd.length = 32) : m.frontB.length ≤ 351 := by
  have h1 := m.headB_length hd
  have h2 := h.op_len
  have h3 := h.ans_len
  unfold Msg.frontB txt
  simp only [List.length_append, be_length, h1]
  omega
end Go.Proofs.YtcbkopjklbiheaaDoor
