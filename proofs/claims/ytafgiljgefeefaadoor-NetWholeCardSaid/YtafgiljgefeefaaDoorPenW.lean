/- A pen, and an eye, that a function made itself: what was there stays. -/
import Derived.Test.YtafgiljgefeefaaDoorPack3
import Derived.Test.YtafgiljgefeefaaDoorEye4
import Derived.Test.YtafgiljgefeefaaDoorRefNum
namespace Go.Proofs.YtafgiljgefeefaaDoor
open Go.RowKit
set_option linter.unusedVariables false

/-- Block B is a pen, made since the world w0, of which all stays. -/
structure PenW (w0 w : World) (B : Nat) (bs : List UInt8) : Prop where
  ex : ∃ base row, Pen 75 5 w B base row bs
  same : Same w0 w
  new : w0.heap.size ≤ B
theorem PenW.mk' (w : World) : PenW w (w.alloc (.cells #[.slice none 0 0] 75)) w.heap.size [] := ⟨⟨_, _, Pen.new _ _ w⟩, (Keeps.refl _ _).alloc _, Nat.le_refl _⟩
theorem PenW.step {w0 w w' : World} {B base : Nat} {row : Option Nat} {bs more : List UInt8} (hp : Pen 75 5 w B base row bs) (k : Same w0 w) (hB : w0.heap.size ≤ B) (hs : Step 75 5 w w' B base row bs more) : PenW w0 w' B (bs ++ more) := by
  obtain ⟨row', hp', hk', _⟩ := hs.ex
  refine ⟨⟨base, row', hp'⟩, k.trans hk' (fun j hj => notPen (by omega) (fun e => ?_)), hB⟩
  have := (hp.row_lt j e).1
  have := hp.lt
  omega
theorem PenW.keep {S : Nat → Prop} {w0 w w' : World} {B : Nat} {bs : List UInt8} (h : PenW w0 w B bs) (k : Keeps S w w') (hs : ∀ j, S j → w.heap.size ≤ j) : PenW w0 w' B bs := by
  obtain ⟨base, row, hp⟩ := h.ex
  refine ⟨⟨base, row, hp.keeps k (fun e => ?_) (fun j hj e => ?_)⟩, h.same.trans k (fun j hj e => ?_), h.new⟩
  · have := hs _ e; have := hp.lt; have := hp.hb; omega
  · have := hs _ e; have := (hp.row_lt j hj).2; omega
  · have := hs _ e; have := h.same.size; omega
theorem PenW.same' {w0 w w' : World} {B : Nat} {bs : List UInt8} (h : PenW w0 w B bs) (k : Same w w') : PenW w0 w' B bs := h.keep k (fun _ e => e.elim)
theorem PenW.lt {w0 w : World} {B : Nat} {bs : List UInt8} (h : PenW w0 w B bs) : B < w.heap.size := by
  obtain ⟨base, row, hp⟩ := h.ex
  have := hp.lt; have := hp.hb; omega

theorem uint_w {w0 : World} (B : Nat) (bs : List UInt8) (n size : Nat) (N S : Int) (w : World) (h : PenW w0 w B bs) (hl : bs.length + 8 ≤ 140737488351232) (h1 : 1 ≤ size) (h2 : size ≤ 8) (hn : n < 256 ^ size) (hN : N = (n : Int)) (hS : S = (size : Int)) :
    Calls Tryd.prog 31 #[.pointer (some ⟨B, 0, none⟩), .int .u64 N, .int .i64 S] w fun e w' => e = .returned (.int .i64 0) ∧ PenW w0 w' B (bs ++ be n size) := by
  obtain ⟨base, row, hp⟩ := h.ex
  exact (uint_ok' B base row bs n size N S w hp hl h1 h2 hn hN hS).mono fun e w' ⟨he, hs⟩ => ⟨he, PenW.step hp h.same h.new hs⟩
theorem raw_w {w0 : World} (B : Nat) (bs more : List UInt8) (x : Value) (w : World) (h : PenW w0 w B bs) (hx : Bytes w x more) (hl : bs.length + more.length ≤ 140737488351232) :
    Calls Tryd.prog 33 #[.pointer (some ⟨B, 0, none⟩), x] w fun e w' => e = .returned (.tuple #[]) ∧ PenW w0 w' B (bs ++ more) := by
  obtain ⟨base, row, hp⟩ := h.ex
  exact (raw_any B base row bs more x w hp hx hl).mono fun e w' ⟨he, hs⟩ => ⟨he, PenW.step hp h.same h.new hs⟩
theorem text_w {w0 : World} (B : Nat) (bs more : List UInt8) (ao : Option Addr) (n c : Nat) (w : World) (h : PenW w0 w B bs) (hx : Bytes w0 (.slice ao n c) more) (hm : more.length ≤ 65535) (hl : bs.length + more.length + 8 ≤ 140737488351232) :
    Calls Tryd.prog 36 #[.pointer (some ⟨B, 0, none⟩), .slice ao n c] w fun e w' => e = .returned (.int .i64 0) ∧ PenW w0 w' B (bs ++ (be more.length 2 ++ more)) := by
  obtain ⟨base, row, hp⟩ := h.ex
  have hn := h.new
  refine (text_ok B base row bs more _ w hp (hx.same h.same) hm (fun a m d e h0 => ?_) hl).mono fun e w' ⟨he, hs⟩ => ⟨he, PenW.step hp h.same h.new hs⟩
  rw [e] at hx
  have hlt := hx.lt h0
  refine ⟨by omega, fun e => ?_⟩
  have := (hp.row_lt _ e).1
  have := hp.lt
  omega
theorem data_w {w0 : World} (B : Nat) (bs : List UInt8) (w : World) (h : PenW w0 w B bs) (hl : bs.length ≤ 140737488351232) :
    Calls Tryd.prog 38 #[.pointer (some ⟨B, 0, none⟩)] w fun e w' => ∃ v, e = .returned v ∧ w'.ownsRow w.heap.size 5 1 v bs.length (u8s bs) ∧ Same w w' := by
  obtain ⟨base, row, hp⟩ := h.ex
  exact data_any B base row bs w hp hl

/-- Block B is an eye, made since the world w0, of which all stays. -/
structure EyeW (w0 w : World) (B : Nat) (v : Value) (bs : List UInt8) (i : Nat) : Prop where
  ex : Eye 104 5 w B v bs i ∧ (bs ≠ [] → v ≠ .slice none 0 0) ∧ ∀ j, v.ownBlock = some j → w0.heap.size ≤ j
  same : Same w0 w
  new : w0.heap.size ≤ B
theorem EyeW.le {w0 w : World} {B : Nat} {v : Value} {bs : List UInt8} {i : Nat} (h : EyeW w0 w B v bs i) : i ≤ bs.length := by
  obtain ⟨h1, _⟩ := h.ex
  exact h1.le
theorem EyeW.lt {w0 w : World} {B : Nat} {v : Value} {bs : List UInt8} {i : Nat} (h : EyeW w0 w B v bs i) : B < w.heap.size := by
  obtain ⟨h1, _⟩ := h.ex
  exact h1.lt
theorem EyeW.keep {S : Nat → Prop} {w0 w w' : World} {B : Nat} {v : Value} {bs : List UInt8} {i : Nat} (h : EyeW w0 w B v bs i) (k : Keeps S w w') (hs : ∀ j, S j → w.heap.size ≤ j) : EyeW w0 w' B v bs i := by
  obtain ⟨h1, h2, h3⟩ := h.ex
  refine ⟨⟨h1.keeps k (fun e => ?_) (fun j hj e => ?_), h2, h3⟩, h.same.trans k (fun j hj e => ?_), h.new⟩
  · have := hs _ e; have := h1.lt; omega
  · have := hs _ e; have := (h1.own.lt j hj).2; omega
  · have := hs _ e; have := h.same.size; omega
theorem EyeW.same' {w0 w w' : World} {B : Nat} {v : Value} {bs : List UInt8} {i : Nat} (h : EyeW w0 w B v bs i) (k : Same w w') : EyeW w0 w' B v bs i := h.keep k (fun _ e => e.elim)

theorem EyeW.row_lt {w0 w : World} {B : Nat} {v : Value} {bs : List UInt8} {i : Nat} (h : EyeW w0 w B v bs i) : ∀ j, v.ownBlock = some j → w0.heap.size ≤ j ∧ j < w.heap.size := fun j e => ⟨h.ex.2.2 j e, (h.ex.1.own.lt j e).2⟩
theorem EyeW.keep' {S : Nat → Prop} {w0 w w' : World} {B : Nat} {v : Value} {bs : List UInt8} {i : Nat} (h : EyeW w0 w B v bs i) (k : Keeps S w w') (hB : ¬ S B) (hv : ∀ j, v.ownBlock = some j → ¬ S j) (h0 : ∀ j, S j → w0.heap.size ≤ j) : EyeW w0 w' B v bs i := by
  obtain ⟨h1, h2, h3⟩ := h.ex
  exact ⟨⟨h1.keeps k hB hv, h2, h3⟩, h.same.trans k (fun j hj e => by have := h0 _ e; omega), h.new⟩
theorem neweye_w (ao : Option Addr) (c : Nat) (bs : List UInt8) (w : World) (hx : Bytes w (.slice ao bs.length c) bs) (hc : bs.length ≤ c) (hl : bs.length ≤ 140737488351232) (hcn : ao = none → c = 0) :
    Calls Tryd.prog 41 #[.slice ao bs.length c] w fun e w' => ∃ B v, e = .returned (.pointer (some ⟨B, 0, none⟩)) ∧ EyeW w w' B v bs 0 := by
  cases ao with
  | none =>
    have hc0 := hcn rfl
    subst hc0
    have h0 : bs = [] := List.length_eq_zero_iff.1 (by omega)
    subst h0
    exact (neweye_nil w).mono fun e w' ⟨B, v, he, h⟩ => ⟨B, v, he, ⟨h.eye, by simp, h.row⟩, h.same, h.new⟩
  | some a => exact (neweye_some a _ c bs w hx rfl hl).mono fun e w' ⟨B, v, he, h, hv⟩ => ⟨B, v, he, ⟨h.eye, fun _ => hv, h.row⟩, h.same, h.new⟩

theorem eye_step {w0 w w' : World} {B : Nat} {v : Value} {bs : List UInt8} {j : Nat} (k : Same w0 w) (hB : w0.heap.size ≤ B) (h2 : bs ≠ [] → v ≠ .slice none 0 0) (h3 : ∀ j, v.ownBlock = some j → w0.heap.size ≤ j)
    (h : Eye 104 5 w' B v bs j) (hk : Keeps (fun k => k = B) w w') : EyeW w0 w' B v bs j := ⟨⟨h, h2, h3⟩, k.trans hk (fun q hq e => by omega), hB⟩
/-- A number read, or nought where there isn't one. -/
theorem eyeuint_w {w0 : World} {v : Value} (B : Nat) (bs : List UInt8) (i n : Nat) (N : Int) (w : World) (h : EyeW w0 w B v bs i) (hl : bs.length ≤ 140737488351232) (hn1 : 1 ≤ n) (hn8 : n ≤ 8) (hN : N = (n : Int)) :
    Calls Tryd.prog 57 #[.pointer (some ⟨B, 0, none⟩), .int .i64 N] w fun e w' => ∃ x er j, e = .returned (.tuple #[.int .u64 (x : Nat), .int .i64 er]) ∧ EyeW w0 w' B v bs j ∧ x < 256 ^ n ∧
      (i + n ≤ bs.length → x = beVal ((bs.drop i).take n) ∧ er = 0 ∧ j = i + n) ∧ (bs.length < i + n → x = 0 ∧ er = 20 ∧ j = i) ∧ Keeps (fun k => k = B) w w' := by
  obtain ⟨h1, h2, h3⟩ := h.ex
  by_cases hb : i + n ≤ bs.length
  · refine (eye_uint_ok B v bs i n N w h1 hl hb hn1 hn8 hN).mono fun e w' ⟨he, hy, hk⟩ => ⟨_, 0, i + n, he, eye_step h.same h.new h2 h3 hy hk, ?_, fun _ => ⟨rfl, rfl, rfl⟩, fun hh => by omega, hk⟩
    have := beVal_lt ((bs.drop i).take n)
    rw [show ((bs.drop i).take n).length = n from by simp; omega] at this
    exact this
  · refine (eye_uint_short B v bs i N w h1 hl (by omega) (by omega) (by have := h1.le; omega)).mono fun e w' ⟨he, m, hw⟩ => ⟨0, 20, i, he, ?_, Nat.pow_pos (by omega), fun hh => by omega, fun _ => ⟨rfl, rfl, rfl⟩, by subst hw; exact (Keeps.refl _ _).drewN m⟩
    subst hw
    exact h.same' ((Keeps.refl _ _).drewN m)
/-- Bytes read, or none where there aren't as many. -/
theorem eyeraw_w {w0 : World} {v : Value} (B : Nat) (bs : List UInt8) (i n : Nat) (N : Int) (w : World) (h : EyeW w0 w B v bs i) (hl : bs.length ≤ 140737488351232) (hn1 : 1 ≤ n) (hN : N = (n : Int)) :
    Calls Tryd.prog 58 #[.pointer (some ⟨B, 0, none⟩), .int .i64 N] w fun e w' => ∃ r er j b, e = .returned (.tuple #[r, .int .i64 er]) ∧ EyeW w0 w' B v bs j ∧ w'.ownsRow w.heap.size 5 1 r b.length (u8s b) ∧
      (i + n ≤ bs.length → b = (bs.drop i).take n ∧ er = 0 ∧ j = i + n) ∧ (bs.length < i + n → b = [] ∧ er = 20 ∧ j = i) ∧ Keeps (fun k => k = B) w w' := by
  subst hN
  obtain ⟨h1, h2, h3⟩ := h.ex
  by_cases hb : i + n ≤ bs.length
  · have hne : bs ≠ [] := by rintro rfl; simp at hb; omega
    refine (eye_raw_ok B v bs i n w h1 hl hb (h2 hne)).mono fun e w' ⟨r, he, ho, hy, hk⟩ => ⟨r, 0, i + n, (bs.drop i).take n, he, eye_step h.same h.new h2 h3 hy hk, ?_, fun _ => ⟨rfl, rfl, rfl⟩, fun hh => by omega, hk⟩
    rw [show ((bs.drop i).take n).length = n from by simp; omega]
    exact ho
  · refine (eye_raw_short B v bs i n w h1 hl (by have := h1.le; omega)).mono fun e w' ⟨he, m, hw⟩ => ⟨_, 20, i, [], he, ?_, World.ownsRow_nil _ _ _ _, fun hh => by omega, fun _ => ⟨rfl, rfl, rfl⟩, by subst hw; exact (Keeps.refl _ _).drewN m⟩
    subst hw
    exact h.same' ((Keeps.refl _ _).drewN m)
/-- A text read, or none. -/
theorem eyetext_w {w0 : World} {v : Value} (B : Nat) (bs : List UInt8) (i : Nat) (w : World) (h : EyeW w0 w B v bs i) (hl : bs.length ≤ 140737488351232) :
    Calls Tryd.prog 44 #[.pointer (some ⟨B, 0, none⟩)] w fun e w' => ∃ r er j b, e = .returned (.tuple #[r, .int .i64 er]) ∧ EyeW w0 w' B v bs j ∧ w'.ownsRow w.heap.size 5 1 r b.length (u8s b) ∧
      ((i + 2 ≤ bs.length ∧ i + 2 + beVal ((bs.drop i).take 2) ≤ bs.length) → b = (bs.drop (i + 2)).take (beVal ((bs.drop i).take 2)) ∧ er = 0 ∧ j = i + 2 + b.length) ∧
      (¬ (i + 2 ≤ bs.length ∧ i + 2 + beVal ((bs.drop i).take 2) ≤ bs.length) → b = [] ∧ er = 20 ∧ j = i) ∧ Keeps (fun k => k = B) w w' := by
  obtain ⟨h1, h2, h3⟩ := h.ex
  by_cases hb : i + 2 ≤ bs.length ∧ i + 2 + beVal ((bs.drop i).take 2) ≤ bs.length
  · have hne : bs ≠ [] := by rintro rfl; simp at hb
    have hbl : ((bs.drop (i + 2)).take (beVal ((bs.drop i).take 2))).length = beVal ((bs.drop i).take 2) := by simp; omega
    refine (eye_text_ok B v bs i _ w h1 hl hb.2 rfl (h2 hne)).mono fun e w' ⟨r, he, ho, hy, hk⟩ => ⟨r, 0, _, (bs.drop (i + 2)).take (beVal ((bs.drop i).take 2)), he, eye_step h.same h.new h2 h3 hy hk, ?_, fun _ => ⟨rfl, rfl, by rw [hbl]⟩, fun hh => absurd hb hh, hk⟩
    rw [hbl]; exact ho
  · refine (eye_text_fail B v bs i w h1 hl (by omega)).mono fun e w' ⟨he, hy, hk⟩ => ⟨_, 20, i, [], he, eye_step h.same h.new h2 h3 hy hk, World.ownsRow_nil _ _ _ _, fun hh => absurd hh hb, fun _ => ⟨rfl, rfl, rfl⟩, hk⟩

end Go.Proofs.YtafgiljgefeefaaDoor
