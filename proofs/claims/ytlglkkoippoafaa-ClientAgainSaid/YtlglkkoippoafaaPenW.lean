/- A pen, and an eye, that a function made itself: what was there stays. -/
import Derived.Test.YtlglkkoippoafaaPack3
import Derived.Test.YtlglkkoippoafaaEye4
import Derived.Test.YtlglkkoippoafaaRefNum
namespace Go.Proofs.Ytlglkkoippoafaa
open Go.RowKit
set_option linter.unusedVariables false

/-- Block B is a pen, made since the world w0, of which all stays. -/
structure PenW (w0 w : World) (B : Nat) (bs : List UInt8) : Prop where
  ex : ∃ base row, Pen 77 5 w B base row bs
  same : Same w0 w
  new : w0.heap.size ≤ B
theorem PenW.mk' (w : World) : PenW w (w.alloc (.cells #[.slice none 0 0] 77)) w.heap.size [] := ⟨⟨_, _, Pen.new _ _ w⟩, (Keeps.refl _ _).alloc _, Nat.le_refl _⟩
theorem PenW.step {w0 w w' : World} {B base : Nat} {row : Option Nat} {bs more : List UInt8} (hp : Pen 77 5 w B base row bs) (k : Same w0 w) (hB : w0.heap.size ≤ B) (hs : Step 77 5 w w' B base row bs more) : PenW w0 w' B (bs ++ more) := by
  obtain ⟨row', hp', hk', _⟩ := hs.ex
  refine ⟨⟨base, row', hp'⟩, k.trans hk' (fun j hj => notPen (by omega) (fun e => ?_)), hB⟩
  have := (hp.row_lt j e).1
  have := hp.lt
  omega
theorem PenW.keep {S : Nat → Prop} {w0 w w' : World} {B : Nat} {bs : List UInt8} (h : PenW w0 w B bs) (k : Keeps S w w') (hs : ∀ j, S j → w.heap.size ≤ j) : PenW w0 w' B bs := by
  obtain ⟨base, row, hp⟩ := h.ex
  refine ⟨⟨base, row, hp.keeps k (fun e => ?_) (fun j hj e => ?_)⟩, h.same.trans k (fun j hj e => ?_), h.new⟩
  · have := hs _ e; have := hp.lt; have := hp.hb; omega
  · have := hs _ e; have := (hp.row_lt j hj).2; omega
  · have := hs _ e; have := h.same.size; omega
theorem PenW.same' {w0 w w' : World} {B : Nat} {bs : List UInt8} (h : PenW w0 w B bs) (k : Same w w') : PenW w0 w' B bs := h.keep k (fun _ e => e.elim)
theorem PenW.lt {w0 w : World} {B : Nat} {bs : List UInt8} (h : PenW w0 w B bs) : B < w.heap.size := by
  obtain ⟨base, row, hp⟩ := h.ex
  have := hp.lt; have := hp.hb; omega

theorem uint_w {w0 : World} (B : Nat) (bs : List UInt8) (n size : Nat) (N S : Int) (w : World) (h : PenW w0 w B bs) (hl : bs.length + 8 ≤ 140737488351232) (h1 : 1 ≤ size) (h2 : size ≤ 8) (hn : n < 256 ^ size) (hN : N = (n : Int)) (hS : S = (size : Int)) :
    Calls Try.prog 31 #[.pointer (some ⟨B, 0, none⟩), .int .u64 N, .int .i64 S] w fun e w' => e = .returned (.int .i64 0) ∧ PenW w0 w' B (bs ++ be n size) := by
  obtain ⟨base, row, hp⟩ := h.ex
  exact (uint_ok' B base row bs n size N S w hp hl h1 h2 hn hN hS).mono fun e w' ⟨he, hs⟩ => ⟨he, PenW.step hp h.same h.new hs⟩
theorem raw_w {w0 : World} (B : Nat) (bs more : List UInt8) (x : Value) (w : World) (h : PenW w0 w B bs) (hx : Bytes w x more) (hl : bs.length + more.length ≤ 140737488351232) :
    Calls Try.prog 41 #[.pointer (some ⟨B, 0, none⟩), x] w fun e w' => e = .returned (.tuple #[]) ∧ PenW w0 w' B (bs ++ more) := by
  obtain ⟨base, row, hp⟩ := h.ex
  exact (raw_any B base row bs more x w hp hx hl).mono fun e w' ⟨he, hs⟩ => ⟨he, PenW.step hp h.same h.new hs⟩
theorem text_w {w0 : World} (B : Nat) (bs more : List UInt8) (ao : Option Addr) (n c : Nat) (w : World) (h : PenW w0 w B bs) (hx : Bytes w0 (.slice ao n c) more) (hm : more.length ≤ 65535) (hl : bs.length + more.length + 8 ≤ 140737488351232) :
    Calls Try.prog 32 #[.pointer (some ⟨B, 0, none⟩), .slice ao n c] w fun e w' => e = .returned (.int .i64 0) ∧ PenW w0 w' B (bs ++ (be more.length 2 ++ more)) := by
  obtain ⟨base, row, hp⟩ := h.ex
  have hn := h.new
  refine (text_ok B base row bs more _ w hp (hx.same h.same) hm (fun a m d e h0 => ?_) hl).mono fun e w' ⟨he, hs⟩ => ⟨he, PenW.step hp h.same h.new hs⟩
  rw [e] at hx
  have hlt := hx.lt h0
  refine ⟨by omega, fun e => ?_⟩
  have := (hp.row_lt _ e).1
  have := hp.lt
  omega
theorem data_w {w0 : World} (B : Nat) (bs : List UInt8) (w : World) (h : PenW w0 w B bs) (hl : bs.length ≤ 140737488351232) :
    Calls Try.prog 33 #[.pointer (some ⟨B, 0, none⟩)] w fun e w' => ∃ v, e = .returned v ∧ w'.ownsRow w.heap.size 5 1 v bs.length (u8s bs) ∧ Same w w' := by
  obtain ⟨base, row, hp⟩ := h.ex
  exact data_any B base row bs w hp hl

end Go.Proofs.Ytlglkkoippoafaa
