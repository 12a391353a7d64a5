/- Slices of slices of bytes; shape.Inner. -/
import Derived.Test.YtfnbmigldciblaaShape3
namespace Go.Proofs.Ytfnbmigldciblaa
open Go.RowKit
set_option linter.unusedVariables false

/-- The slice x holds slices that read as bytes. -/
def Rows2 (w : World) (x : Value) (rs : List (Value × List UInt8)) : Prop :=
  (∃ a c, x = .slice (some a) rs.length c ∧ ∀ j r, rs[j]? = some r → w.cell? (a.add j) = some r.1 ∧ Bytes w r.1 r.2) ∨ (∃ c, x = .slice none 0 c ∧ rs = [])
theorem Rows2.same {w w' : World} {x : Value} {rs : List (Value × List UInt8)} (h : Rows2 w x rs) (k : Same w w') : Rows2 w' x rs := by
  rcases h with ⟨a, c, rfl, hc⟩ | h
  · refine .inl ⟨a, c, rfl, fun j u hu => ?_⟩
    have h1 := hc j u hu
    have hb : (a.add j).block = a.block := by unfold Addr.add; split <;> rfl
    have hlt := World.block_lt_of_cell? w _ h1.1
    rw [World.cell?_of_block (w := w) (k.block _ hlt (fun e => e))]
    exact ⟨h1.1, h1.2.same k⟩
  · exact .inr h
theorem Rows2.at {w : World} {ao : Option Addr} {n c : Nat} {rs : List (Value × List UInt8)} (h : Rows2 w (.slice ao n c) rs) {j : Nat} (hj : j < rs.length) : ∃ a xo xc, ao = some a ∧ rs[j].1 = .slice xo rs[j].2.length xc ∧ w.cell? (a.add j) = some (.slice xo rs[j].2.length xc) ∧ Bytes w (.slice xo rs[j].2.length xc) rs[j].2 := by
  rcases h with ⟨a', c', h1, hc⟩ | ⟨c, h, h1⟩
  · simp only [Value.slice.injEq] at h1
    obtain ⟨rfl, _, _⟩ := h1
    obtain ⟨h2, h3⟩ := hc j _ (List.getElem?_eq_getElem hj)
    obtain ⟨xo, xc, hx⟩ := h3.form
    rw [hx] at h2 h3
    exact ⟨_, xo, xc, rfl, hx, h2, h3⟩
  · subst h1; simp at hj

open Classical in
/-- Whether a key ends a group, as a Bool. -/
noncomputable def markB (bs : List UInt8) (level : Int) : Bool := decide (MarkOf bs level)
theorem markB_iff (bs : List UInt8) (level : Int) : markB bs level = true ↔ MarkOf bs level := by simp [markB]
theorem mark_b (ao : Option Addr) (n cap : Nat) (level : Int) (bs : List UInt8) (w : World) (hx : Bytes w (.slice ao n cap) bs) (hn : bs.length = n) (hm : n ≤ 1099511627776) :
    Calls Try.prog 9 #[.slice ao n cap, .int .i64 level] w fun e w' => e = .returned (.bool (markB bs level)) ∧ w' = w := by
  subst hn
  refine (mark_any ao cap level bs w hx hm).mono fun e w' ⟨b, h1, h2, h3⟩ => ⟨?_, h2⟩
  rw [h1, show b = markB bs level from by rw [Bool.eq_iff_iff, h3, markB_iff]]
theorem rmark_b (ao : Option Addr) (n cap : Nat) (level : Int) (bs : List UInt8) (w : World) (hx : Bytes w (.slice ao n cap) bs) (hn : bs.length = n) (hm : n ≤ 1099511627776) :
    Calls Try.prog 10 #[.slice ao n cap, .int .i64 level] w fun e w' => e = .returned (.bool (markB bs level)) ∧ w' = w := by
  subst hn
  refine (rmark_any ao cap level bs w hx hm).mono fun e w' ⟨b, h1, h2, h3⟩ => ⟨?_, h2⟩
  rw [h1, show b = markB bs level from by rw [Bool.eq_iff_iff, h3, markB_iff]]

/-- Where kids' groups end. -/
def InnerEnds (rs : List (Value × List UInt8)) (level : Int) (f t : Nat) : Prop := 4 ≤ t - f ∨ (2 ≤ t - f ∧ ∃ r, rs[t - 1]? = some r ∧ MarkOf r.2 level)
open Classical in
noncomputable instance (rs : List (Value × List UInt8)) (level : Int) : ∀ f t, Decidable (InnerEnds rs level f t) := fun f t => propDecidable _

set_option maxRecDepth 100000 in
set_option maxHeartbeats 3200000 in
theorem innerEnds_ok (B1 B2 f t cap : Nat) (ao : Option Addr) (level : Int) (rs : List (Value × List UInt8)) (w : World) (h1 : w.heap[B1]? = some (.cells #[.slice ao rs.length cap] 32 (0, 0))) (h2 : w.heap[B2]? = some (.cells #[.int .i64 level] 3 (0, 0)))
    (hr : Rows2 w (.slice ao rs.length cap) rs) (hft : f < t) (ht : t < rs.length) (hm : rs.length ≤ 1000000) (hs : ∀ r ∈ rs, r.2.length ≤ 1000000) :
    Calls Try.prog 23 #[.int .i64 f, .int .i64 t, .pointer (some ⟨B1, 0, none⟩), .pointer (some ⟨B2, 0, none⟩)] w fun e w' => ∃ b, e = .returned (.bool b) ∧ (∃ n, w' = w.drewN n) ∧ (b = true ↔ InnerEnds rs level f t) := by
  have c1 := cell_of_one h1
  have c2 := cell_of_one h2
  have HR := Lib.hid hr
  clear hr h1 h2
  have wd : IntKind.i64.wrap ((t : Int) - (f : Int)) = (t : Int) - (f : Int) := IntWalk.i64_in _ (by omega)
  obtain ⟨d, hd⟩ : ∃ d : Nat, (t : Int) - (f : Int) = (d : Int) := Int.eq_ofNat_of_zero_le (by omega)
  have hdt : t - f = d := by omega
  by_cases q4 : (4 : Int) ≤ (d : Int)
  · have HE := Lib.hid (show InnerEnds rs level f t from .inl (by omega))
    go_enter Try.func23, Try.ntmps23
    go_wp2
    go_quiet (fail)
    go_wp2
    go_ret
    exact ⟨true, rfl, ⟨_, rfl⟩, ⟨fun _ => HE.out, fun _ => rfl⟩⟩
  · have cb4 : decide ((4 : Int) ≤ (d : Int)) = false := decide_eq_false q4
    by_cases q2 : (2 : Int) ≤ (d : Int)
    · have cb2 : decide ((2 : Int) ≤ (d : Int)) = true := decide_eq_true q2
      have s1 : IntKind.i64.wrap ((t : Int) - 1) = (t : Int) - 1 := IntWalk.i64_in _ (by omega)
      have s2 : (0 : Int) ≤ (t : Int) - 1 := by omega
      have s3 : (t : Int) - 1 < (rs.length : Int) := by omega
      have s4 : ((t : Int) - 1).toNat = t - 1 := by omega
      have hj : t - 1 < rs.length := by omega
      obtain ⟨a, xo, xc, rfl, hx1, hx2, hx3⟩ := HR.out.at hj
      have hlen := hs _ (List.getElem_mem hj)
      have HE : Hid (markB rs[t - 1].2 level = true ↔ InnerEnds rs level f t) := Lib.hid (by
        rw [markB_iff]
        constructor
        · intro h; exact .inr ⟨by omega, _, List.getElem?_eq_getElem hj, h⟩
        · rintro (h | ⟨_, r, hr, h⟩)
          · omega
          · rw [List.getElem?_eq_getElem hj] at hr
            rw [Option.some.inj hr]; exact h)
      have HB := Lib.hid hx3
      generalize rs[t - 1].2 = bs at *
      clear hx1 hx3 hs
      go_enter Try.func23, Try.ntmps23
      go_wp2
      go_quiet ((go_at_call 9; exact Calls.quiet_of_same (mark_b xo bs.length xc level bs _ (HB.out.same ((Keeps.refl _ _).drewN _)) rfl (by omega))))
      go_wp2
      go_ret
      exact ⟨_, rfl, ⟨_, rfl⟩, HE.out⟩
    · have cb2 : decide ((2 : Int) ≤ (d : Int)) = false := decide_eq_false q2
      have hE : ¬ InnerEnds rs level f t := by
        rintro (h | ⟨h, _⟩)
        · omega
        · omega
      have HE := Lib.hid hE
      clear hE
      go_enter Try.func23, Try.ntmps23
      go_wp2
      go_quiet (fail)
      go_wp2
      go_ret
      exact ⟨false, rfl, ⟨_, rfl⟩, ⟨fun e => (by cases e), fun e => absurd e HE.out⟩⟩

end Go.Proofs.Ytfnbmigldciblaa
