/- Disks whose power lasts. -/
import Derived.Test.YtoimhniijeafaaaDk15
import Derived.Test.YtoimhniijeafaaaPlan4
namespace Go.Proofs.Ytoimhniijeafaaa
open Go.RowKit
set_option linter.unusedVariables false

theorem st_new (n : Nat) : DSt.new n = st (List.replicate n noughts) [] := rfl
theorem st_wcode {L : List (List UInt8)} {O : List (Nat × List UInt8)} {p : Nat} (h : p < L.length) : (st L O).wcode (p : Int) = 0 := by simp [DSt.wcode, st, DSt.power, h]
theorem st_rcode {L : List (List UInt8)} {O : List (Nat × List UInt8)} {p : Nat} (h : p < L.length) : (st L O).rcode (p : Int) = 0 := by simp [DSt.rcode, st, h]
theorem st_wrote' {L : List (List UInt8)} {O : List (Nat × List UInt8)} {p : Nat} (h : p < L.length) (B : List UInt8) : (st L O).wrote (p : Int) B = st L (O ++ [(p, B)]) := by simp [DSt.wrote, st, DSt.spent, h]
theorem st_seen' {L : List (List UInt8)} {O : List (Nat × List UInt8)} {p : Nat} (h : p < L.length) : (st L O).seen (p : Int) = seenAt L O p := by simp [DSt.seen, st, h]
theorem st_fcode {L : List (List UInt8)} {O : List (Nat × List UInt8)} : (st L O).fcode = 0 := by simp [DSt.fcode, st, DSt.power]
theorem st_flushed {L : List (List UInt8)} {O : List (Nat × List UInt8)} : (st L O).flushed = st (applied L O) [] := by simp [DSt.flushed, st, DSt.power, DSt.spent]
theorem st_crashed {L : List (List UInt8)} {O : List (Nat × List UInt8)} {fs : List Int} : (st L O).crashed fs = st ((O.zip fs).foldl fated L) [] := rfl
theorem Dk.seen_len {F : Nat → Prop} {w : World} {D : Nat} {L : List (List UInt8)} {O : List (Nat × List UInt8)} (h : Dk F w D (st L O)) {m : Nat} (hm : m < L.length) : (seenAt L O m).length = 512 := by
  obtain ⟨lv, ov, h, _⟩ := h
  exact h.seen_len hm
theorem great_ok' (q : Bool) (w : World) (ao : Option Addr) (n cap : Nat) (ops : List LOp) (hn : n = ops.length) (h : Ops w ao ops) (hq : greatOf ops = q) :
    Calls Try.prog 10 #[.slice ao n cap] w fun e w' => e = .returned (.bool q) ∧ Same w w' := by
  subst hq; exact great_ok w ao n cap ops hn h
/-- A write into a disk whose power lasts. -/
theorem st_write (w wr : World) (D : Nat) (F : Nat → Prop) (L : List (List UInt8)) (O : List (Nat × List UInt8)) (R : List (Value × List UInt8)) (p g c : Nat) (B : List UInt8) (h : SpI w wr D F (st L O) R) (hp : p < L.length) (hx : wr.ownsRow 0 5 1 (.slice (some ⟨g, 0, none⟩) 512 c) 512 (u8s B)) (hB : B.length = 512) (hf : ¬ F g) (hO : O.length ≤ 100000) :
    Calls Try.prog 21 #[.pointer (some ⟨D, 0, none⟩), .int .i64 (p : Nat), .slice (some ⟨g, 0, none⟩) 512 c] wr fun e w' => ∃ F', e = .returned (.int .i64 0) ∧ SpI w w' D F' (st L (O ++ [(p, B)])) R ∧ Keeps F wr w' ∧ Grow F F' wr := by
  refine (dk_write wr F D (st L O) p g c B h.1 (own_range hx) hB hf (by exact hO)).mono fun e w' ⟨F', he, hd, hk, hg⟩ => ⟨F', ?_, ?_, hk, hg⟩
  · rw [he, st_wcode hp]
  · rw [st_wrote' hp] at hd
    exact h.step hd hk hg
theorem st_flush (w wr : World) (D : Nat) (F : Nat → Prop) (L : List (List UInt8)) (O : List (Nat × List UInt8)) (R : List (Value × List UInt8)) (h : SpI w wr D F (st L O) R) (hO : O.length ≤ 100000) :
    Calls Try.prog 14 #[.pointer (some ⟨D, 0, none⟩)] wr fun e w' => ∃ F', e = .returned (.int .i64 0) ∧ SpI w w' D F' (st (applied L O) []) R ∧ Keeps F wr w' ∧ Grow F F' wr := by
  refine (dk_flush wr F D (st L O) h.1 (by exact hO)).mono fun e w' ⟨F', he, hd, hk, hg⟩ => ⟨F', ?_, ?_, hk, hg⟩
  · rw [he, st_fcode]
  · rw [st_flushed] at hd
    exact h.step hd hk hg
theorem grow_apart {F F' S : Nat → Prop} {w : World} (hg : Grow F F' w) (hl : ∀ k, S k → k < w.heap.size) (h : ∀ k, F k → ¬ S k) : ∀ k, F' k → ¬ S k := fun k e e2 => by
  rcases hg k e with e | e
  · exact h k e e2
  · have := hl k e2; omega
theorem st_read (w : World) (D : Nat) (F : Nat → Prop) (L : List (List UInt8)) (O : List (Nat × List UInt8)) (p : Nat) (h : Dk F w D (st L O)) (hp : p < L.length) (hO : O.length ≤ 100000) :
    Calls Try.prog 24 #[.pointer (some ⟨D, 0, none⟩), .int .i64 (p : Nat)] w fun e w' => ∃ v, e = .returned (.tuple #[v, .int .i64 0]) ∧ w'.ownsRow w.heap.size 5 1 v 512 (u8s (seenAt L O p)) ∧ Same w w' := by
  refine (dk_read w F D (st L O) p h (by exact hO)).mono fun e w' ⟨v, he, ho, hk⟩ => ⟨v, ?_, ?_, hk⟩
  · rw [he, st_rcode hp]
  · rw [st_seen' hp, h.seen_len hp] at ho
    exact ho
end Go.Proofs.Ytoimhniijeafaaa
