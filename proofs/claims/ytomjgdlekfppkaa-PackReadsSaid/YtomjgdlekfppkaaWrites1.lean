/- What PackWrites keeps from round to round: a pen's bytes, and the same bytes as they are wanted. -/
import Derived.Test.YtomjgdlekfppkaaBack1
import Derived.Test.YtomjgdlekfppkaaSpoil02
import Derived.Test.YtomjgdlekfppkaaREye1
namespace Go.Proofs.Ytomjgdlekfppkaa
open Go.RowKit
set_option linter.unusedVariables false

/-- A pen and a wanted row with the same bytes. -/
structure Both (w wr : World) (BP : Nat) (d : Value) (xs : List UInt8) : Prop where
  ex : ∃ row g cap, d = .slice (some ⟨g, 0, none⟩) xs.length cap ∧ Pen 28 5 wr BP (BP + 1) row xs ∧ wr.ownsRow (BP + 1) 5 1 d xs.length (u8s xs) ∧ row ≠ some g
  same : Same w wr
  new : w.heap.size ≤ BP
theorem Both.start (w : World) : Both w ((w.alloc (.cells #[.slice none 0 0] 28)).alloc (.cells #[] 5)) w.heap.size (.slice (some ⟨w.heap.size + 1, 0, none⟩) 0 0) [] := by
  refine ⟨⟨none, w.heap.size + 1, 0, rfl, ?_, ?_, by simp⟩, ((Keeps.refl _ _).alloc _).alloc _, Nat.le_refl _⟩
  · exact (Pen.new _ _ w).keeps ((Keeps.refl (fun _ => False) _).alloc _) (fun e => e) (fun _ _ e => e)
  · have := World.ownsRow_made (base := w.heap.size + 1) (e := 5) (size := 1) (w.alloc (.cells #[.slice none 0 0] 28)) #[] 0 (by simp) (by unfold maxLen; omega) (by simp)
    simpa [u8s] using this
theorem mask3 (k : Int) : bits BinOp.and IntKind.i64 k 3 = 0 ∨ bits BinOp.and IntKind.i64 k 3 = 1 ∨ bits BinOp.and IntKind.i64 k 3 = 2 ∨ bits BinOp.and IntKind.i64 k 3 = 3 := by
  have h2 : (BitVec.ofInt IntKind.i64.bits k &&& BitVec.ofInt IntKind.i64.bits 3).toNat ≤ 3 := by
    rw [BitVec.toNat_and]
    have h3 : (BitVec.ofInt IntKind.i64.bits 3).toNat = 3 := by decide
    rw [h3]
    exact Nat.and_le_right
  have h4 : bits BinOp.and IntKind.i64 k 3 = IntKind.i64.wrap ((BitVec.ofInt IntKind.i64.bits k &&& BitVec.ofInt IntKind.i64.bits 3).toNat : Int) := rfl
  rw [h4, IntWalk.i64_in _ (by omega)]
  omega

/-- Where a round stands when it has written, and has the document's answer. -/
structure Ready (w1 wr w6 : World) (BP gd dcap gb cb : Nat) (xs add : List UInt8) (o : Opx) (bo : Option Addr) (bc : Nat) (mv : Value) : Prop where
  ex : ∃ row row6, Pen 28 5 w6 BP (BP + 1) row6 (xs ++ add) ∧ Keeps (PenSet BP row) wr w6 ∧ row6 ≠ some gd ∧ row6 ≠ some gb ∧ (∀ k, row = some k → BP + 1 ≤ k)
  want : w6.ownsRow (BP + 1) 5 1 (.slice (some ⟨gd, 0, none⟩) xs.length dcap) xs.length (u8s xs)
  bown : w6.ownsRow (BP + 1) 5 1 (.slice (some ⟨gb, 0, none⟩) o.bs.length cb) o.bs.length (u8s o.bs)
  more : Bytes w6 mv add
  oblk : w6.heap[wr.heap.size]? = some (.cells #[.int .i64 o.kind, .int .i64 o.size, .int .u64 o.num, .slice bo o.bs.length bc] 31 (0, 0))
  obs : Bytes w6 (.slice bo o.bs.length bc) o.bs
  far : ∀ a, bo = some a → o.bs ≠ [] → a.block < BP
  n1 : BP < wr.heap.size
  n2 : gd < wr.heap.size
  n3 : wr.heap.size < gb
  n5 : BP < gd
  n6 : w1.heap.size ≤ BP
  n7 : Same w1 wr

structure Later (w7 : World) (wr : World) (gb cb gd' cap' : Nat) (BP : Nat) (row6 : Option Nat) (xs add : List UInt8) (o : Opx) (bo : Option Addr) (bc : Nat) : Prop where
  pen : Pen 28 5 w7 BP (BP + 1) row6 (xs ++ add)
  bown : w7.ownsRow (BP + 1) 5 1 (.slice (some ⟨gb, 0, none⟩) o.bs.length cb) o.bs.length (u8s o.bs)
  want : w7.ownsRow (BP + 1) 5 1 (.slice (some ⟨gd', 0, none⟩) (xs.length + add.length) cap') (xs.length + add.length) (u8s (xs ++ add))
  oblk : w7.heap[wr.heap.size]? = some (.cells #[.int .i64 o.kind, .int .i64 o.size, .int .u64 o.num, .slice bo o.bs.length bc] 31 (0, 0))
  obs : Bytes w7 (.slice bo o.bs.length bc) o.bs
  d1 : gd' ≠ gb
  d2 : row6 ≠ some gd'
  d3 : row6 ≠ some gb
theorem Ready.later {w1 wr w6 w7 : World} {BP gd dcap gb cb gd' cap' : Nat} {xs add : List UInt8} {o : Opx} {bo : Option Addr} {bc : Nat} {mv : Value} (h : Ready w1 wr w6 BP gd dcap gb cb xs add o bo bc mv)
    (hw : w7.ownsRow (BP + 1) 5 1 (.slice (some ⟨gd', 0, none⟩) (xs.length + add.length) cap') (xs.length + add.length) (u8s (xs ++ add))) (hg : w6.grownBy w7 (some gd)) (hat : gd' = gd ∨ gd' = w6.heap.size) :
    ∃ row row6, Later w7 wr gb cb gd' cap' BP row6 xs add o bo bc ∧ Keeps (fun k => PenSet BP row k ∨ k = gd) wr w7 ∧ (∀ k, row = some k → BP + 1 ≤ k) := by
  obtain ⟨row, row6, hp, hk, hr1, hr2, hr3⟩ := h.ex
  have hk7 : Keeps (fun k => k = gd) w6 w7 := (Keeps.refl _ _).grown hg (fun k e _ => by simp at e; exact e.symm)
  have h1 := h.n1
  have h2 := h.n2
  have h3 := h.n3
  have h5 := h.n5
  have hb := h.bown.lt gb rfl
  refine ⟨row, row6, ⟨hp.keeps hk7 (by omega) (fun j e h => hr1 (by rw [e, h])), own_keeps hk7 h.bown (fun k e => by simp only [Value.ownBlock, Option.some.injEq] at e; omega), hw, hk7.obj h.oblk (by omega), ?_, ?_, ?_, hr2⟩, ?_, hr3⟩
  · by_cases hn : o.bs = []
    · rw [hn]; exact Bytes.nil _ _ _
    · refine h.obs.keeps hk7 (fun a n c e hh => ?_)
      simp only [Value.slice.injEq] at e
      have := h.far a e.1 hn
      omega
  · omega
  · rcases hat with rfl | rfl
    · exact hr1
    · intro e; have := (hp.row_lt _ e).2; omega
  · exact (hk.mono (fun _ _ e => .inl e)).trans hk7 (fun j _ e => .inr e)
theorem Later.finish {w1 wr w7 w8 w9 w10 : World} {BP gd gb cb gd' cap' : Nat} {row row6 : Option Nat} {xs add : List UInt8} {o : Opx} {bo : Option Addr} {bc : Nat} {d8 : Value} (h : Later w7 wr gb cb gd' cap' BP row6 xs add o bo bc)
    (hk : Keeps (fun k => PenSet BP row k ∨ k = gd) wr w7) (hr : ∀ k, row = some k → BP + 1 ≤ k) (n1 : w1.heap.size ≤ BP) (n2 : BP < gd) (n3 : Same w1 wr) (n4 : wr.heap.size < gb) (n5 : BP < wr.heap.size)
    (h8 : Same w7 w8) (ho8 : ∀ k, d8.ownBlock = some k → w7.heap.size ≤ k) (h9 : Keeps (RowOf d8) w8 w9) (h10 : Keeps (RowOf (.slice (some ⟨gb, 0, none⟩) o.bs.length cb)) w9 w10) :
    Both w1 w10 BP (.slice (some ⟨gd', 0, none⟩) (xs.length + add.length) cap') (xs ++ add) := by
  have hz7 := h8.size
  have hb7 := (h.bown.lt gb rfl).2
  have hw7 := (h.want.lt gd' rfl).2
  have hp7 := h.pen.hb
  have k79 : Same w7 w9 := h8.trans h9 (fun j hj e => by have := ho8 j e; omega)
  have hgb : ∀ k, RowOf (.slice (some ⟨gb, 0, none⟩) o.bs.length cb) k → k = gb := fun k e => by simp only [RowOf, Value.ownBlock, Option.some.injEq] at e; exact e.symm
  have hp9 := h.pen.keeps k79 (fun e => e) (fun _ _ e => e)
  have hd1 := h.d1
  refine ⟨⟨row6, gd', cap', by rw [List.length_append], hp9.keeps h10 (fun e => by have := hgb _ e; omega) (fun j e hh => h.d3 (by rw [e, hgb j hh])), ?_, h.d2⟩, ?_, n1⟩
  · rw [List.length_append]
    exact own_keeps h10 (own_keeps k79 h.want (fun _ _ e => e)) (fun k e hh => by simp only [Value.ownBlock, Option.some.injEq] at e; have := hgb k hh; omega)
  · have hs := n3.size
    have a1 : Same w1 w7 := n3.trans hk (fun j hj e => by
      rcases e with (e | e) | e
      · omega
      · have := hr j e; omega
      · omega)
    have a2 : Same w1 w9 := a1.trans k79 (fun _ _ e => e)
    exact a2.trans h10 (fun j hj e => by have := hgb j e; omega)

theorem blk_three {wr w3 : World} {o : Opx} {bo : Option Addr} {bc : Nat}
    (hg3 : ((wr.alloc (.cells #[.int .i64 o.kind, .int .i64 o.size, .int .u64 o.num, .slice bo o.bs.length bc] 31)).alloc (.cells #[] 5)).grownBy w3 (some (wr.heap.size + 1))) :
    w3.heap[wr.heap.size]? = some (.cells #[.int .i64 o.kind, .int .i64 o.size, .int .u64 o.num, .slice bo o.bs.length bc] 31 (0, 0)) :=
  (hg3.block wr.heap.size (by simp; omega) (by simp)).trans (((Keeps.refl (fun _ => False) _).alloc _).obj (heap_alloc_new wr _) (fun e => e))
theorem same_three {wr w3 : World} {x y : Obj} (hg3 : ((wr.alloc x).alloc y).grownBy w3 (some (wr.heap.size + 1))) : Same wr w3 := (((Keeps.refl _ _).alloc _).alloc _).grown hg3 (fun k e hk => by simp only [Option.some.injEq] at e; omega)
theorem pen_three {wr w3 : World} {x y : Obj} {T E : TypeId} {BP base : Nat} {row : Option Nat} {xs : List UInt8} (hp : Pen T E wr BP base row xs) (hg3 : ((wr.alloc x).alloc y).grownBy w3 (some (wr.heap.size + 1))) : ∀ z, Pen T E (w3.alloc z) BP base row xs :=
  fun z => hp.keeps ((same_three hg3).alloc z) (fun e => e) (fun _ _ e => e)
theorem blk_step {wr w3 w5 : World} {BP : Nat} {row : Option Nat} {xs add : List UInt8} {o : Opx} {bo : Option Addr} {bc : Nat} {y : Obj} (hp : Pen 28 5 wr BP (BP + 1) row xs)
    (hg3 : ((wr.alloc (.cells #[.int .i64 o.kind, .int .i64 o.size, .int .u64 o.num, .slice bo o.bs.length bc] 31)).alloc (.cells #[] 5)).grownBy w3 (some (wr.heap.size + 1)))
    (hs : Step 28 5 (w3.alloc y) w5 BP (BP + 1) row xs add) :
    w5.heap[wr.heap.size]? = some (.cells #[.int .i64 o.kind, .int .i64 o.size, .int .u64 o.num, .slice bo o.bs.length bc] 31 (0, 0)) := by
  obtain ⟨row6, hp5, hk5, hm5⟩ := hs.ex
  have hB := hp.hb
  exact hk5.obj (((Keeps.refl (fun _ => False) _).alloc y).obj (blk_three hg3) (fun e => e)) (notPen (by omega) (fun e => by have := (hp.row_lt _ e).2; omega))
theorem obs_step {w1 wr w3 w5 : World} {row : Option Nat} {xs add : List UInt8} {o : Opx} {bo : Option Addr} {bc : Nat} {x y z : Obj} (n7 : Same w1 wr) (hp : Pen 28 5 wr w1.heap.size (w1.heap.size + 1) row xs)
    (hg3 : ((wr.alloc x).alloc z).grownBy w3 (some (wr.heap.size + 1))) (hs : Step 28 5 (w3.alloc y) w5 w1.heap.size (w1.heap.size + 1) row xs add) (hb1 : Bytes w1 o.val o.bs) (hform : o.val = .slice bo o.bs.length bc) :
    Bytes w5 (.slice bo o.bs.length bc) o.bs := by
  obtain ⟨row6, hp5, hk5, hm5⟩ := hs.ex
  rw [← hform]
  by_cases hn : o.bs = []
  · rw [hform, hn]; exact Bytes.nil _ _ _
  · refine (hb1.same ((n7.trans (same_three hg3) (fun _ _ e => e)).alloc y)).keeps hk5 (fun a n c e => ?_)
    rw [e] at hb1
    have := hb1.lt hn
    exact notPen (by omega) (fun e2 => by have := (hp.row_lt _ e2).1; omega)
theorem run_obs {w : World} {o : Opx} {bo : Option Addr} {bc : Nat} (h : Bytes w (.slice bo o.bs.length bc) o.bs) (hf : o.val = .slice bo o.bs.length bc) (hsp : ∀ a n c, o.val = .slice (some a) n c → o.bs ≠ [] → a.spot = none) :
    (convert 26 9 (.slice bo o.bs.length bc)).run Try.prog w = .ok (.string ⟨o.bs.toArray⟩) w := by
  by_cases hn : o.bs = []
  · rw [hn]; exact run_string_nil _ _ _ _ _ _ Try.underlying26 Try.underlying5 Try.underlying9
  · exact run_string h _ _ _ Try.underlying26 Try.underlying5 Try.underlying9 (fun a n c e => hsp a n c (by rw [hf]; exact e) hn)
theorem ready_of {w1 wr w3 w5 w6 : World} {BP gd dcap gb cb : Nat} {row : Option Nat} {xs add : List UInt8} {o : Opx} {bo : Option Addr} {bc : Nat} {mv : Value} {y : Obj}
    (n7 : Same w1 wr) (n6 : w1.heap.size ≤ BP) (hp : Pen 28 5 wr BP (BP + 1) row xs) (hd : wr.ownsRow (BP + 1) 5 1 (.slice (some ⟨gd, 0, none⟩) xs.length dcap) xs.length (u8s xs)) (hr : row ≠ some gd)
    (hob : w3.ownsRow (wr.heap.size + 1) 5 1 (.slice (some ⟨gb, 0, none⟩) o.bs.length cb) o.bs.length (u8s o.bs))
    (hg3 : ((wr.alloc (.cells #[.int .i64 o.kind, .int .i64 o.size, .int .u64 o.num, .slice bo o.bs.length bc] 31)).alloc (.cells #[] 5)).grownBy w3 (some (wr.heap.size + 1)))
    (hs : Step 28 5 (w3.alloc y) w5 BP (BP + 1) row xs add) (h6 : Same w5 w6) (hm : Bytes w6 mv add) (hb1 : Bytes w1 o.val o.bs) (hform : o.val = .slice bo o.bs.length bc) :
    Ready w1 wr w6 BP gd dcap gb cb xs add o bo bc mv := by
  obtain ⟨row6, hp5, hk5, hm5⟩ := hs.ex
  have hB := hp.hb
  have hgd := hd.lt gd rfl
  have hgb := hob.lt gb rfl
  have k3 : Same wr w3 := (((Keeps.refl _ _).alloc _).alloc _).grown hg3 (fun k e hk => by simp only [Option.some.injEq] at e; omega)
  have k4 : Same wr (w3.alloc y) := k3.alloc _
  have hz4 := k4.size
  have hz3 := k3.size
  have hrow : ∀ k, row = some k → BP + 1 ≤ k ∧ k < wr.heap.size := fun k e => hp.row_lt k e
  have k5 : Keeps (PenSet BP row) wr w5 := k4.any.trans hk5 (fun _ _ e => e)
  have k6 : Keeps (PenSet BP row) wr w6 := k5.trans h6 (fun _ _ e => e.elim)
  have hr6 : ∀ g, g < (w3.alloc y).heap.size → row ≠ some g → row6 ≠ some g := by
    intro g hg hne
    rcases hm5 with rfl | ⟨g', rfl, hgg⟩
    · exact hne
    · simp; omega
  have hn1 : BP < wr.heap.size := by omega
  have hob5 : w5.ownsRow (wr.heap.size + 1) 5 1 (.slice (some ⟨gb, 0, none⟩) o.bs.length cb) o.bs.length (u8s o.bs) :=
    own_keeps hk5 (own_keeps ((Keeps.refl (fun _ => False) w3).alloc y) hob (fun _ _ e => e)) (fun k e => notPen (by simp only [Value.ownBlock, Option.some.injEq] at e; omega) (fun e2 => by simp only [Value.ownBlock, Option.some.injEq] at e; have := (hrow k e2).2; omega))
  have hblk3 : w3.heap[wr.heap.size]? = some (.cells #[.int .i64 o.kind, .int .i64 o.size, .int .u64 o.num, .slice bo o.bs.length bc] 31 (0, 0)) :=
    (hg3.block wr.heap.size (by simp; omega) (by simp)).trans (((Keeps.refl (fun _ => False) _).alloc _).obj (heap_alloc_new wr _) (fun e => e))
  refine ⟨⟨row, row6, hp5.keeps h6 (fun e => e) (fun _ _ e => e), k6, hr6 gd (by simp; omega) hr, hr6 gb (by simp; omega) (fun e => by have := (hrow gb e).2; omega), fun k e => (hrow k e).1⟩, ?_, ?_, hm, ?_, ?_, ?_, hn1, hgd.2, by omega, by omega, n6, n7⟩
  · exact own_keeps k6 hd (fun k e => notPen (by simp only [Value.ownBlock, Option.some.injEq] at e; omega) (by simp only [Value.ownBlock, Option.some.injEq] at e; subst e; exact hr))
  · exact own_base (own_keeps h6 hob5 (fun _ _ e => e)) (by omega)
  · exact h6.obj (hk5.obj (((Keeps.refl (fun _ => False) _).alloc y).obj hblk3 (fun e => e)) (notPen (by omega) (fun e => by have := (hrow _ e).2; omega))) (fun e => e)
  · rw [← hform]
    by_cases hn : o.bs = []
    · rw [hform, hn]; exact Bytes.nil _ _ _
    · refine (hb1.same n7).keeps k6 (fun a n c e => ?_)
      rw [e] at hb1
      have := hb1.lt hn
      exact notPen (by omega) (fun e2 => by have := (hrow _ e2).1; omega)
  · intro a e hn
    rw [hform, e] at hb1
    have := hb1.lt hn
    omega

end Go.Proofs.Ytomjgdlekfppkaa
