/- append as one step, from the equation of its run; append of nothing; slices that read as bytes. No program is named here. -/
import Derived.Test.YtafgiljgefeefaaDoorKit
import Derived.Deep.RegionLaw
import Derived.Laws.BytesArg
namespace Go.Proofs.YtafgiljgefeefaaDoor
open Go.RowKit

/-- Where the run of an append is known: at a step of a region that draws its order. -/
theorem step_append_run {P : Program} {ops : Array Oper} {o : Oper} {a : Act} {w : World} {K : Act → World → Prop} {Q : Exit → Act → World → Prop} {E : Prop} (hgd : o.guard = none) (s x : Operand) (t : TypeId)
    (ho : o.op = .call { callee := .builtin .append, args := #[s, x], argTypes := #[t, t] }) (v xv r : Value) (w' : World) (hs : a.eval s = v) (hx : a.eval x = xv)
    (hr : (Builtin.append_ #[t, t] o.type #[v, xv]).run P w = .ok r w') (hK : K (a.put o.dst r) w') :
    if Region.wanted o (yielded ops a.tmps) = true then Oper.wp P o a w K Q else E := by
  have hw : Region.wanted o (yielded ops a.tmps) = true := by simp [Region.wanted, hgd]
  rw [if_pos hw]
  unfold Oper.wp execOp
  simp only [ho, resolve, invoke, builtin, Sem.run_bind, Sem.run_pure, Result.andThen_ok, List.map_toArray, List.map_cons, List.map_nil, hs, hx, hr]
  exact hK
/-- The same at the list of a plain region's operations. -/
theorem wpList_append_run {P : Program} {ops : Array Oper} {rest : List Oper} {o : Oper} {a : Act} {w : World} {Q : Exit → Act → World → Prop} (hgd : o.guard = none) (s x : Operand) (t : TypeId)
    (ho : o.op = .call { callee := .builtin .append, args := #[s, x], argTypes := #[t, t] }) (v xv r : Value) (w' : World) (hs : a.eval s = v) (hx : a.eval x = xv)
    (hr : (Builtin.append_ #[t, t] o.type #[v, xv]).run P w = .ok r w') (hK : wpList P ops Q rest (a.put o.dst r) w') :
    wpList P ops Q (o :: rest) a w :=
  wpList_plain hgd fun K hK' => by
    unfold Oper.wp execOp
    simp only [ho, resolve, invoke, builtin, Sem.run_bind, Sem.run_pure, Result.andThen_ok, List.map_toArray, List.map_cons, List.map_nil, hs, hx, hr]
    exact hK' _ _ hK

/-- Nothing is appended: the slice is as it was, and so is the world. -/
theorem run_append_zero {P : Program} (w : World) (t ty e : TypeId) (i : TypeInfo) (ht : P.underlying t = some (.slice e)) (hi : P.info? e = some i) (ao xo : Option Addr) (n cap c : Nat) (hn : n ≤ cap) :
    (Builtin.append_ #[t, t] ty #[.slice ao n cap, .slice xo 0 c]).run P w = .ok (.slice ao n cap) w := by
  have h0 : (Builtin.firstCells i.size 0 (.slice xo 0 c)).run P w = .ok #[] w := by
    cases xo with
    | none => simp [Builtin.firstCells]
    | some a => simpa using run_firstCells_some (P := P) w i.size 0 a 0 c [] (by simp) (by simp)
  cases ao with
  | none => simp [Builtin.append_, run_underlying ht, sizeOf, typeInfo, hi, Builtin.lenOf, hn, h0]
  | some a => simp [Builtin.append_, run_underlying ht, sizeOf, typeInfo, hi, Builtin.lenOf, hn, h0, storeCells]

/-- The slice x reads as the bytes bs. -/
def Bytes (w : World) (x : Value) (bs : List UInt8) : Prop :=
  (∃ a c, x = .slice (some a) bs.length c ∧ ∀ j u, (u8s bs)[j]? = some u → w.cell? (a.add j) = some u) ∨ (∃ c, x = .slice none 0 c ∧ bs = [])
theorem Bytes.form {w : World} {x : Value} {bs : List UInt8} (h : Bytes w x bs) : ∃ ao c, x = .slice ao bs.length c := by
  rcases h with ⟨a, c, rfl, _⟩ | ⟨c, rfl, rfl⟩
  · exact ⟨_, _, rfl⟩
  · exact ⟨_, _, rfl⟩
theorem Bytes.nil (w : World) (ao : Option Addr) (c : Nat) : Bytes w (.slice ao 0 c) [] := by
  cases ao with
  | none => exact .inr ⟨c, rfl, rfl⟩
  | some a => exact .inl ⟨a, c, rfl, by simp [u8s]⟩
theorem Bytes.of_own {w : World} {base : Nat} {e : TypeId} {v : Value} {bs : List UInt8} (h : w.ownsRow base e 1 v bs.length (u8s bs)) : Bytes w v bs := by
  rcases h.2 with ⟨rfl, h0⟩ | ⟨g, cap, cur, rfl, _, _⟩
  · have : bs = [] := List.length_eq_zero_iff.1 h0
    subst this
    exact .inr ⟨0, rfl, rfl⟩
  · exact .inl ⟨⟨g, 0, none⟩, cap, rfl, h.cells rfl⟩
theorem Bytes.keeps {S : Nat → Prop} {w w' : World} {x : Value} {bs : List UInt8} (h : Bytes w x bs) (k : Keeps S w w') (hs : ∀ a n c, x = .slice (some a) n c → ¬ S a.block) : Bytes w' x bs := by
  rcases h with ⟨a, c, rfl, hc⟩ | h
  · refine .inl ⟨a, c, rfl, fun j u hu => ?_⟩
    have h1 := hc j u hu
    have hb : (a.add j).block = a.block := by unfold Addr.add; split <;> rfl
    have hlt := World.block_lt_of_cell? w _ h1
    rw [World.cell?_of_block (w := w) (k.block _ hlt (by rw [hb]; exact hs a _ c rfl))]
    exact h1
  · exact .inr h
theorem Bytes.same {w w' : World} {x : Value} {bs : List UInt8} (h : Bytes w x bs) (k : Same w w') : Bytes w' x bs := h.keeps k fun _ _ _ _ e => e
theorem Bytes.lt {w : World} {a : Addr} {n c : Nat} {bs : List UInt8} (h : Bytes w (.slice (some a) n c) bs) (h0 : bs ≠ []) : a.block < w.heap.size := by
  rcases h with ⟨a', c', h1, hc⟩ | ⟨c, h, _⟩
  · simp only [Value.slice.injEq, Option.some.injEq] at h1
    obtain ⟨rfl, _, _⟩ := h1
    cases bs with
    | nil => exact absurd rfl h0
    | cons b r =>
      have := World.block_lt_of_cell? w _ (hc 0 _ rfl)
      simpa [Addr.add] using this
  · simp at h

theorem own_spot {w : World} {base : Nat} {e : TypeId} {size n : Nat} {v : Value} {xs : List Value} (h : w.ownsRow base e size v n xs) : ∀ a m c, v = .slice (some a) m c → a.spot = none := by
  intro a m c hv
  rcases h.2 with ⟨h1, _⟩ | ⟨g, cap, cur, h1, _⟩
  · rw [h1] at hv; simp at hv
  · rw [h1] at hv; simp only [Value.slice.injEq, Option.some.injEq] at hv; rw [← hv.1]
theorem Bytes.of_block {w : World} {B : Nat} {cs : Array Value} {t : TypeId} {fr : Nat × Nat} {bs : List UInt8} (hb : w.heap[B]? = some (.cells cs t fr)) (h : cs.toList = u8s bs) (n c : Nat) (hn : n = bs.length) : Bytes w (.slice (some ⟨B, 0, none⟩) n c) bs := by
  subst hn
  exact .inl ⟨_, c, rfl, fun j u hu => World.news_of_block hb j u (by rw [h]; exact hu)⟩
/-- The front of what reads as bytes. -/
theorem Bytes.take {w : World} {a : Addr} {m c : Nat} {bs : List UInt8} (h : Bytes w (.slice (some a) m c) bs) (n : Nat) (hn : n ≤ bs.length) : Bytes w (.slice (some a) n c) (bs.take n) := by
  have hl : (bs.take n).length = n := by simp; omega
  rcases h with ⟨a', c', e, hc⟩ | ⟨c', e, _⟩
  · simp only [Value.slice.injEq, Option.some.injEq] at e
    obtain ⟨rfl, _, rfl⟩ := e
    refine .inl ⟨a, c, by rw [hl], fun j u hu => hc j u ?_⟩
    have hj : j < n := by
      have := (List.getElem?_eq_some_iff.1 hu).1
      rw [u8s_length, hl] at this; exact this
    rw [← hu]
    simp [u8s, hj]
  · simp at e

/-- 'string(x)' of a slice that reads as bytes. -/
theorem run_string {P : Program} {w : World} {x : Value} {bs : List UInt8} (h : Bytes w x bs) (src dst e : TypeId) (hs : P.underlying src = some (.slice e)) (he : P.underlying e = some (.int .u8)) (hd : P.underlying dst = some .string)
    (hf : ∀ a n c, x = .slice (some a) n c → a.spot = none) :
    (convert src dst x).run P w = .ok (.string ⟨bs.toArray⟩) w := by
  rcases h with ⟨a, c, rfl, hc⟩ | ⟨c, rfl, rfl⟩
  · have ha := hf a _ c rfl
    obtain ⟨b, off, spot⟩ := a
    simp only at ha
    subst ha
    have := run_convert_bytes_arg (P := P) w src e hs he b off bs.length c (bs.map fun b => (b.toNat : Int)) (by simp) (fun i hi => by
      have h2 := hc i _ (u8s_get bs i hi)
      have hadd : (⟨b, off, none⟩ : Addr).add i = ⟨b, off + i, none⟩ := by unfold Addr.add; split <;> simp_all
      rw [hadd] at h2
      simpa [List.getD, hi] using h2) dst hd
    rw [this]
    congr 2
    simp [strOfNums, Function.comp_def]
  · rw [run_convert_bytes_nil (P := P) w src e hs he 0 c dst hd]
    rfl

theorem run_string_nil {P : Program} (w : World) (ao : Option Addr) (c : Nat) (src dst e : TypeId) (hs : P.underlying src = some (.slice e)) (he : P.underlying e = some (.int .u8)) (hd : P.underlying dst = some .string) :
    (convert src dst (.slice ao 0 c)).run P w = .ok (.string ⟨#[]⟩) w := by
  cases ao with
  | none => rw [run_convert_bytes_nil (P := P) w src e hs he 0 c dst hd]; rfl
  | some a =>
    have hl : (loadCells a 0).run P w = .ok (([] : List Int).map (Value.int .u8)).toArray w := by simpa using run_loadCells_list (P := P) w a [] (by simp)
    rw [run_convert_bytes_string w src dst e _ 0 c hs he hd, run_bytesToString w _ 0 c [] hl]
    rfl
/-- The same, of an owned row. -/
theorem run_string_own {P : Program} {w : World} {base : Nat} {x : Value} {bs : List UInt8} (src dst e : TypeId) (h : w.ownsRow base e 1 x bs.length (u8s bs)) (hs : P.underlying src = some (.slice e)) (he : P.underlying e = some (.int .u8)) (hd : P.underlying dst = some .string) :
    (convert src dst x).run P w = .ok (.string ⟨bs.toArray⟩) w := run_string (Bytes.of_own h) src dst e hs he hd (own_spot h)

end Go.Proofs.YtafgiljgefeefaaDoor
