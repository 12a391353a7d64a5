/- The document's leaves; whether pairs are too many. -/
import Derived.Test.YtdeajjppmgfemaaBase
import Derived.Test.YtdeajjppmgfemaaStrs
import Derived.Test.YtdeajjppmgfemaaRow
namespace Go.Proofs.Ytdeajjppmgfemaa
open Go.RowKit
set_option linter.unusedVariables false

/-- The sum of a key's bytes. -/
def fnv (bs : List UInt8) : Nat := bs.foldl (fun h b => ((h ^^^ b.toNat) * 16777619) % 4294967296) 2166136261
theorem fnv_from (bs : List UInt8) : ∀ h, h < 4294967296 → bs.foldl (fun h b => ((h ^^^ b.toNat) * 16777619) % 4294967296) h < 4294967296 := by
  induction bs with
  | nil => intro h hh; exact hh
  | cons b r ih => intro h _; exact ih _ (Nat.mod_lt _ (by omega))
theorem fnv_lt (bs : List UInt8) : fnv bs < 4294967296 := fnv_from bs _ (by omega)
theorem fnv_snoc (bs : List UInt8) (j : Nat) (h : j < bs.length) : fnv (bs.take (j + 1)) = ((fnv (bs.take j) ^^^ bs[j].toNat) * 16777619) % 4294967296 := by
  unfold fnv
  rw [List.take_succ_eq_append_getElem h, List.foldl_append, List.foldl_cons, List.foldl_nil]
/-- Whether a key ends a group at a level. -/
def MarkOf (bs : List UInt8) (level : Int) : Prop := 0 ≤ level ∧ level ≤ 15 ∧ fnv bs / 4 ^ level.toNat % 4 = 0

theorem xor_u32 (a b : Nat) (ha : a < 4294967296) (hb : b < 256) : bits BinOp.xor IntKind.u32 (a : Int) (b : Int) = ((a ^^^ b : Nat) : Int) := by
  have h : a ^^^ b < 2 ^ 32 := Nat.xor_lt_two_pow (by omega) (by omega)
  have h1 : bits BinOp.xor IntKind.u32 (a : Int) (b : Int) = IntKind.u32.wrap ((BitVec.ofInt 32 (a : Int) ^^^ BitVec.ofInt 32 (b : Int)).toNat : Int) := rfl
  have h2 : (BitVec.ofInt 32 (a : Int) ^^^ BitVec.ofInt 32 (b : Int)).toNat = a ^^^ b := by
    rw [BitVec.toNat_xor, BitVec.ofInt_natCast, BitVec.ofInt_natCast, BitVec.toNat_ofNat, BitVec.toNat_ofNat, Nat.mod_eq_of_lt (by omega), Nat.mod_eq_of_lt (by omega)]
  rw [h1, h2, IntWalk.u32_in _ (by omega)]
theorem xor_u64 (a b : Nat) (ha : a < 4294967296) (hb : b < 256) : bits BinOp.xor IntKind.u64 (a : Int) (b : Int) = ((a ^^^ b : Nat) : Int) := by
  have h : a ^^^ b < 2 ^ 32 := Nat.xor_lt_two_pow (by omega) (by omega)
  have h1 : bits BinOp.xor IntKind.u64 (a : Int) (b : Int) = IntKind.u64.wrap ((BitVec.ofInt 64 (a : Int) ^^^ BitVec.ofInt 64 (b : Int)).toNat : Int) := rfl
  have h2 : (BitVec.ofInt 64 (a : Int) ^^^ BitVec.ofInt 64 (b : Int)).toNat = a ^^^ b := by
    rw [BitVec.toNat_xor, BitVec.ofInt_natCast, BitVec.ofInt_natCast, BitVec.toNat_ofNat, BitVec.toNat_ofNat, Nat.mod_eq_of_lt (by omega), Nat.mod_eq_of_lt (by omega)]
  rw [h1, h2, IntWalk.u64_in _ (by omega)]
theorem and_three (a : Nat) (ha : a < 4294967296) : bits BinOp.and IntKind.u32 (a : Int) 3 = ((a % 4 : Nat) : Int) := by
  have h1 : bits BinOp.and IntKind.u32 (a : Int) 3 = IntKind.u32.wrap ((BitVec.ofInt 32 (a : Int) &&& BitVec.ofInt 32 3).toNat : Int) := rfl
  have h3 : (BitVec.ofInt 32 3).toNat = 2 ^ 2 - 1 := by decide
  have h2 : (BitVec.ofInt 32 (a : Int) &&& BitVec.ofInt 32 3).toNat = a % 4 := by
    rw [BitVec.toNat_and, h3, BitVec.ofInt_natCast, BitVec.toNat_ofNat, Nat.mod_eq_of_lt (by omega), Nat.and_two_pow_sub_one_eq_mod]
  rw [h1, h2, IntWalk.u32_in _ (by omega)]

end Go.Proofs.Ytdeajjppmgfemaa
namespace Go.Proofs.Ytdeajjppmgfemaa
open Go.RowKit
set_option linter.unusedVariables false

/-- The slice x reads as the numbers ss. -/
def Ints (w : World) (x : Value) (ss : List Int) : Prop :=
  (∃ a c, x = .slice (some a) ss.length c ∧ ∀ j s, ss[j]? = some s → w.cell? (a.add j) = some (.int .i64 s)) ∨ (∃ c, x = .slice none 0 c ∧ ss = [])
theorem Ints.nil (w : World) (ao : Option Addr) (c : Nat) : Ints w (.slice ao 0 c) [] := by
  cases ao with
  | none => exact .inr ⟨c, rfl, rfl⟩
  | some a => exact .inl ⟨a, c, rfl, by simp⟩
theorem Ints.keeps {S : Nat → Prop} {w w' : World} {x : Value} {ss : List Int} (h : Ints w x ss) (k : Keeps S w w') (hs : ∀ a n c, x = .slice (some a) n c → ¬ S a.block) : Ints w' x ss := by
  rcases h with ⟨a, c, rfl, hc⟩ | h
  · refine .inl ⟨a, c, rfl, fun j u hu => ?_⟩
    have h1 := hc j u hu
    have hb : (a.add j).block = a.block := by unfold Addr.add; split <;> rfl
    have hlt := World.block_lt_of_cell? w _ h1
    rw [World.cell?_of_block (w := w) (k.block _ hlt (by rw [hb]; exact hs a _ c rfl))]
    exact h1
  · exact .inr h
theorem Ints.same {w w' : World} {x : Value} {ss : List Int} (h : Ints w x ss) (k : Same w w') : Ints w' x ss := h.keeps k fun _ _ _ _ e => e
theorem Ints.lt {w : World} {a : Addr} {n c : Nat} {ss : List Int} (h : Ints w (.slice (some a) n c) ss) (h0 : ss ≠ []) : a.block < w.heap.size := by
  rcases h with ⟨a', c', h1, hc⟩ | ⟨c, h, _⟩
  · simp only [Value.slice.injEq, Option.some.injEq] at h1
    obtain ⟨rfl, _, _⟩ := h1
    cases ss with
    | nil => exact absurd rfl h0
    | cons b r =>
      have := World.block_lt_of_cell? w _ (hc 0 _ rfl)
      simpa [Addr.add] using this
  · simp at h
theorem Ints.at {w : World} {ao : Option Addr} {n c : Nat} {ss : List Int} (h : Ints w (.slice ao n c) ss) {j : Nat} (hj : j < ss.length) : ∃ a, ao = some a ∧ w.cell? (a.add j) = some (.int .i64 ss[j]) := by
  rcases h with ⟨a', c', h1, hc⟩ | ⟨c, h, h1⟩
  · simp only [Value.slice.injEq] at h1
    obtain ⟨rfl, _, _⟩ := h1
    exact ⟨_, rfl, hc j _ (by simp [hj])⟩
  · subst h1; simp at hj
/-- A slice of numbers as it lies behind calls that change the blocks S: they aren't its own. -/
theorem Ints.far {S : Nat → Prop} {w w' : World} {ao : Option Addr} {n c : Nat} {ss : List Int} (h : Ints w (.slice ao n c) ss) (hn : n = ss.length) (k : Keeps S w w') (hs : ∀ j, j < w.heap.size → ¬ S j) : Ints w' (.slice ao n c) ss := by
  by_cases h0 : ss = []
  · subst h0; subst hn; exact Ints.nil _ _ _
  · refine h.keeps k fun a n' c' e => ?_
    simp only [Value.slice.injEq] at e
    obtain ⟨rfl, _, _⟩ := e
    exact hs _ (h.lt h0)
/-- Numbers as the cells of a row. -/
def i64s (zs : List Int) : List Value := zs.map fun z => Value.int .i64 z
theorem i64s_length (zs : List Int) : (i64s zs).length = zs.length := by simp [i64s]
theorem i64s_cell (zs : List Int) : ∀ u ∈ i64s zs, u.oneCell' = true := by
  intro u hu; simp [i64s] at hu; obtain ⟨_, _, rfl⟩ := hu; rfl
theorem i64s_append (a b : List Int) : i64s (a ++ b) = i64s a ++ i64s b := by simp [i64s]
theorem Ints.of_own {w : World} {base : Nat} {e : TypeId} {v : Value} {zs : List Int} (h : w.ownsRow base e 1 v zs.length (i64s zs)) : Ints w v zs := by
  rcases h.2 with ⟨rfl, h0⟩ | ⟨g, cap, cur, rfl, _, _⟩
  · have : zs = [] := List.length_eq_zero_iff.1 h0
    subst this
    exact .inr ⟨0, rfl, rfl⟩
  · exact .inl ⟨⟨g, 0, none⟩, cap, rfl, fun j s hs => h.cells rfl j _ (by simp [i64s, hs])⟩
theorem Ints.of_block {w : World} {B : Nat} {cs : Array Value} {t : TypeId} {fr : Nat × Nat} {zs : List Int} (hb : w.heap[B]? = some (.cells cs t fr)) (h : cs.toList = i64s zs) (n c : Nat) (hn : n = zs.length) : Ints w (.slice (some ⟨B, 0, none⟩) n c) zs := by
  subst hn
  exact .inl ⟨_, c, rfl, fun j u hu => World.news_of_block hb j _ (by rw [h]; simp [i64s, hu])⟩

/-- append of one number, which lies in a row of its own, onto a row of the call's own, nil or not. -/
theorem wpList_append_int {P : Program} {ops : Array Oper} {rest : List Oper} {o : Oper} {a : Act} {w : World} {Q : Exit → Act → World → Prop} (hgd : o.guard = none) (s x : Operand) (t e : TypeId) (i : TypeInfo)
    (ho : o.op = .call { callee := .builtin .append, args := #[s, x], argTypes := #[t, t] }) (ht : P.underlying t = some (.slice e)) (hi : P.info? e = some i) (hz : i.zero = some (.int .i64 0)) (hsz : i.size = 1) (hb : i.bytes = 8)
    (base B c : Nat) (v : Value) (zs : List Int) (z : Int) (hs : a.eval s = v) (hx : a.eval x = .slice (some ⟨B, 0, none⟩) 1 c) (hown : w.ownsRow base e 1 v zs.length (i64s zs)) {t' : TypeId} {fr : Nat × Nat} (hB : w.heap[B]? = some (.cells #[.int .i64 z] t' fr)) (hl : zs.length + 1 ≤ 1099511627776) (hbase : base ≤ w.heap.size)
    (h : ∀ g' cap' w', w'.ownsRow base e 1 (.slice (some ⟨g', 0, none⟩) (zs.length + 1) cap') (zs ++ [z]).length (i64s (zs ++ [z])) → w.grownBy w' v.ownBlock → wpList P ops Q rest (a.put o.dst (.slice (some ⟨g', 0, none⟩) (zs.length + 1) cap')) w') :
    wpList P ops Q (o :: rest) a w := by
  obtain ⟨g', cap', w', h1, h2, h3, _⟩ := run_append_lies (P := P) w t o.type base e i (.int .i64 0) 1 8 ht hi hz hsz hb rfl (by omega) v zs.length (i64s zs) hown ⟨B, 0, none⟩ 1 c [.int .i64 z] rfl (World.news_of_block hB) (by simp [Value.oneCell']) (by omega) (by unfold maxLen; omega) (by omega) hbase w.heap.size rfl
  exact wpList_append_run hgd s x t ho _ _ _ w' hs hx h1 (h g' cap' w' (by simpa [i64s] using h2) h3)
theorem append_int_same {w wr w' : World} {base : Nat} {e : TypeId} {v : Value} {zs : List Int} (hk : Same w wr) (o : Obj) (hown : wr.ownsRow base e 1 v zs.length (i64s zs)) (hb : w.heap.size ≤ base) (hg : (wr.alloc o).grownBy w' v.ownBlock) : Same w w' :=
  (hk.alloc o).grown hg fun k e hlt => by have := (hown.lt k e).1; omega

end Go.Proofs.Ytdeajjppmgfemaa
namespace Go.Proofs.Ytdeajjppmgfemaa
open Go.RowKit
set_option linter.unusedVariables false

/-- What Same of two lists of numbers tells. -/
def IntsPost (w : World) (ss tt : List Int) (e : Ending) (w' : World) : Prop := ∃ b, e = .returned (.bool b) ∧ (∃ n, w' = w.drewN n) ∧ (b = true ↔ ss = tt)
theorem IntsPost.no {w : World} {ss tt : List Int} (h : ¬ ss = tt) (n m : Nat) : IntsPost w ss tt (.returned (.bool false)) ((w.drewN n).drewN m) := ⟨false, rfl, ⟨n + m, by simp⟩, ⟨fun e => (by cases e), fun e => absurd e h⟩⟩
theorem IntsPost.no0 {w : World} {ss tt : List Int} (h : ¬ ss = tt) : IntsPost w ss tt (.returned (.bool false)) w := ⟨false, rfl, ⟨0, rfl⟩, ⟨fun e => (by cases e), fun e => absurd e h⟩⟩
theorem mark_nil_zero : ¬ MarkOf [] 0 := by
  rintro ⟨_, _, h⟩
  simp [fnv] at h

theorem Try.infoU8 : (Try.prog.info? 5).map (fun i => (i.zero, i.size, i.bytes)) = some (some (.int .u8 0), 1, 1) := by kernel_rfl

end Go.Proofs.Ytdeajjppmgfemaa
namespace Go.Proofs.Ytdeajjppmgfemaa
open Go.RowKit
set_option linter.unusedVariables false

/-- The groups, and the beginning of the one that is under way, behind k things of N. -/
def groupsTo (E : Nat → Nat → Prop) [∀ a b, Decidable (E a b)] (N : Nat) : Nat → List Int × Nat
  | 0 => ([], 0)
  | k + 1 => if k + 1 = N ∨ E (groupsTo E N k).2 (k + 1) then ((groupsTo E N k).1 ++ [((k + 1 : Nat) : Int) - ((groupsTo E N k).2 : Nat)], k + 1) else groupsTo E N k
theorem groupsTo_le (E : Nat → Nat → Prop) [∀ a b, Decidable (E a b)] (N : Nat) : ∀ k, (groupsTo E N k).2 ≤ k ∧ (groupsTo E N k).1.length ≤ k
  | 0 => by simp [groupsTo]
  | k + 1 => by
    have h := groupsTo_le E N k
    unfold groupsTo
    split
    · simp; omega
    · omega

theorem groupsTo_end (E : Nat → Nat → Prop) [∀ a b, Decidable (E a b)] (N k : Nat) (h : k + 1 = N ∨ E (groupsTo E N k).2 (k + 1)) : groupsTo E N (k + 1) = ((groupsTo E N k).1 ++ [((k + 1 : Nat) : Int) - ((groupsTo E N k).2 : Nat)], k + 1) := by
  conv => lhs; unfold groupsTo
  rw [if_pos h]
theorem groupsTo_on (E : Nat → Nat → Prop) [∀ a b, Decidable (E a b)] (N k : Nat) (h : ¬ (k + 1 = N ∨ E (groupsTo E N k).2 (k + 1))) : groupsTo E N (k + 1) = groupsTo E N k := by
  conv => lhs; unfold groupsTo
  rw [if_neg h]
theorem groupsTo_end' {E : Nat → Nat → Prop} [∀ a b, Decidable (E a b)] {N k fr : Nat} {zs : List Int} (hg : groupsTo E N k = (zs, fr)) (h : k + 1 = N ∨ E fr (k + 1)) : groupsTo E N (k + 1) = (zs ++ [(k : Int) + 1 - (fr : Int)], k + 1) := by
  rw [groupsTo_end E N k (by rw [hg]; exact h), hg]; simp
theorem groupsTo_on' {E : Nat → Nat → Prop} [∀ a b, Decidable (E a b)] {N k fr : Nat} {zs : List Int} (hg : groupsTo E N k = (zs, fr)) (h : ¬ k + 1 = N) (h2 : ¬ E fr (k + 1)) : groupsTo E N (k + 1) = (zs, fr) := by
  rw [groupsTo_on E N k (by rw [hg]; exact fun e => e.elim h h2), hg]
theorem Try.infoInt : (Try.prog.info? 3).map (fun i => (i.zero, i.size, i.bytes)) = some (some (.int .i64 0), 1, 8) := by kernel_rfl
theorem info_parts8 {P : Program} {t : TypeId} {z : Value} {s b : Nat} (h : (P.info? t).map (fun i => (i.zero, i.size, i.bytes)) = some (some z, s, b)) : ∃ i, P.info? t = some i ∧ i.zero = some z ∧ i.size = s ∧ i.bytes = b := by
  cases hh : P.info? t with
  | none => rw [hh] at h; simp at h
  | some i =>
    rw [hh] at h
    simp only [Option.map_some, Option.some.injEq, Prod.mk.injEq] at h
    exact ⟨i, rfl, h.1, h.2.1, h.2.2⟩

end Go.Proofs.Ytdeajjppmgfemaa
namespace Go.Proofs.Ytdeajjppmgfemaa
open Go.RowKit
set_option linter.unusedVariables false

/-- The slice x holds slices that read as bytes. -/
def Rows2 (w : World) (x : Value) (rs : List (Value × List UInt8)) : Prop :=
  (∃ a c, x = .slice (some a) rs.length c ∧ ∀ j r, rs[j]? = some r → w.cell? (a.add j) = some r.1 ∧ Bytes w r.1 r.2) ∨ (∃ c, x = .slice none 0 c ∧ rs = [])
theorem Rows2.same {w w' : World} {x : Value} {rs : List (Value × List UInt8)} (h : Rows2 w x rs) (k : Same w w') : Rows2 w' x rs := by
  rcases h with ⟨a, c, rfl, hc⟩ | h
  · refine .inl ⟨a, c, rfl, fun j u hu => ?_⟩
    have h1 := hc j u hu
    have hb : (a.add j).block = a.block := by unfold Addr.add; split <;> rfl
    have hlt := World.block_lt_of_cell? w _ h1.1
    rw [World.cell?_of_block (w := w) (k.block _ hlt (fun e => e))]
    exact ⟨h1.1, h1.2.same k⟩
  · exact .inr h
theorem Rows2.at {w : World} {ao : Option Addr} {n c : Nat} {rs : List (Value × List UInt8)} (h : Rows2 w (.slice ao n c) rs) {j : Nat} (hj : j < rs.length) : ∃ a xo xc, ao = some a ∧ rs[j].1 = .slice xo rs[j].2.length xc ∧ w.cell? (a.add j) = some (.slice xo rs[j].2.length xc) ∧ Bytes w (.slice xo rs[j].2.length xc) rs[j].2 := by
  rcases h with ⟨a', c', h1, hc⟩ | ⟨c, h, h1⟩
  · simp only [Value.slice.injEq] at h1
    obtain ⟨rfl, _, _⟩ := h1
    obtain ⟨h2, h3⟩ := hc j _ (List.getElem?_eq_getElem hj)
    obtain ⟨xo, xc, hx⟩ := h3.form
    rw [hx] at h2 h3
    exact ⟨_, xo, xc, rfl, hx, h2, h3⟩
  · subst h1; simp at hj

open Classical in
/-- Whether a key ends a group, as a Bool. -/
noncomputable def markB (bs : List UInt8) (level : Int) : Bool := decide (MarkOf bs level)
theorem markB_iff (bs : List UInt8) (level : Int) : markB bs level = true ↔ MarkOf bs level := by simp [markB]
/-- Where kids' groups end. -/
def InnerEnds (rs : List (Value × List UInt8)) (level : Int) (f t : Nat) : Prop := 4 ≤ t - f ∨ (2 ≤ t - f ∧ ∃ r, rs[t - 1]? = some r ∧ MarkOf r.2 level)
open Classical in
noncomputable instance (rs : List (Value × List UInt8)) (level : Int) : ∀ f t, Decidable (InnerEnds rs level f t) := fun f t => propDecidable _

end Go.Proofs.Ytdeajjppmgfemaa
namespace Go.Proofs.Ytdeajjppmgfemaa
open Go.RowKit
set_option linter.unusedVariables false

/-- A pair: its two slices, and what they read as. -/
structure PairX where
  kv : Value
  ks : List UInt8
  vv : Value
  vs : List UInt8
/-- The pair lies there. -/
structure PairAt (w : World) (g off : Nat) (p : PairX) : Prop where
  c0 : w.cell? ⟨g, off, none⟩ = some p.kv
  c1 : w.cell? ⟨g, off + 1, none⟩ = some p.vv
  bk : Bytes w p.kv p.ks
  bv : Bytes w p.vv p.vs
  sk : ∀ a n c, p.kv = .slice (some a) n c → p.ks ≠ [] → a.spot = none
  sv : ∀ a n c, p.vv = .slice (some a) n c → p.vs ≠ [] → a.spot = none
/-- A slice of pairs. -/
def Pairs (w : World) (ao : Option Addr) (ps : List PairX) : Prop := ps = [] ∨ ∃ g off, ao = some ⟨g, off, none⟩ ∧ ∀ j (h : j < ps.length), PairAt w g (off + j * 2) ps[j]
theorem PairAt.same {w w' : World} {g off : Nat} {p : PairX} (h : PairAt w g off p) (k : Same w w') : PairAt w' g off p := by
  have hb := World.block_lt_of_cell? w _ h.c0
  have hc : ∀ i v, w.cell? ⟨g, i, none⟩ = some v → w'.cell? ⟨g, i, none⟩ = some v := fun i v e => (World.cell?_of_block (w := w) (a := ⟨g, i, none⟩) (k.block g hb (fun e => e))).trans e
  exact ⟨hc _ _ h.c0, hc _ _ h.c1, h.bk.same k, h.bv.same k, h.sk, h.sv⟩
theorem Pairs.same {w w' : World} {ao : Option Addr} {ps : List PairX} (h : Pairs w ao ps) (k : Same w w') : Pairs w' ao ps := by
  rcases h with h | ⟨g, off, h1, h2⟩
  · exact .inl h
  · exact .inr ⟨g, off, h1, fun j hj => (h2 j hj).same k⟩
/-- The j-th pair, its slices written out. -/
theorem Pairs.at {w : World} {ao : Option Addr} {ps : List PairX} (h : Pairs w ao ps) {j : Nat} (hj : j < ps.length) :
    ∃ g off ko kc vo vc, ao = some ⟨g, off, none⟩ ∧ ps[j].kv = .slice ko ps[j].ks.length kc ∧ ps[j].vv = .slice vo ps[j].vs.length vc ∧ w.cell? ⟨g, off + j * 2, none⟩ = some (.slice ko ps[j].ks.length kc) ∧ w.cell? ⟨g, off + j * 2 + 1, none⟩ = some (.slice vo ps[j].vs.length vc) ∧
      Bytes w (.slice ko ps[j].ks.length kc) ps[j].ks ∧ Bytes w (.slice vo ps[j].vs.length vc) ps[j].vs := by
  rcases h with h | ⟨g, off, h1, h2⟩
  · subst h; simp at hj
  · have hp := h2 j hj
    obtain ⟨ko, kc, hk⟩ := hp.bk.form
    obtain ⟨vo, vc, hv⟩ := hp.bv.form
    refine ⟨g, off, ko, kc, vo, vc, h1, hk, hv, ?_, ?_, ?_, ?_⟩
    · rw [← hk]; exact hp.c0
    · rw [← hv]; exact hp.c1
    · rw [← hk]; exact hp.bk
    · rw [← hv]; exact hp.bv
/-- A part of pairs, at the address that a slice expression makes. -/
theorem Pairs.cut {w : World} {ao : Option Addr} {ps : List PairX} (h : Pairs w ao ps) (cap lo n : Nat) (hn : lo + n ≤ ps.length) (hc : ps.length ≤ cap) :
    Pairs w (if cap = lo then ao else Option.map (fun x => x.add (lo * 2)) ao) ((ps.drop lo).take n) := by
  have hl : ((ps.drop lo).take n).length = n := by simp; omega
  by_cases e : cap = lo
  · have h0 : n = 0 := by omega
    subst h0
    exact .inl (by simp)
  · rw [if_neg e]
    rcases h with h | ⟨g, off, h1, h2⟩
    · subst h; exact .inl (by simp)
    · subst h1
      refine .inr ⟨g, off + lo * 2, ?_, fun j hj => ?_⟩
      · simp only [Option.map_some, Addr.add]
        split <;> simp_all
      · rw [hl] at hj
        have := h2 (lo + j) (by omega)
        have he : ((ps.drop lo).take n)[j]'(by rw [hl]; exact hj) = ps[lo + j] := by simp
        rw [he, show off + lo * 2 + j * 2 = off + (lo + j) * 2 from by omega]
        exact this

theorem Pairs.part {w : World} {g off : Nat} {ps : List PairX} (h : Pairs w (some ⟨g, off, none⟩) ps) (lo n : Nat) (hn : lo + n ≤ ps.length) : Pairs w (some ⟨g, off + lo * 2, none⟩) ((ps.drop lo).take n) := by
  have hl : ((ps.drop lo).take n).length = n := by simp; omega
  rcases h with h | ⟨g', off', h1, h2⟩
  · subst h; exact .inl (by simp)
  · simp only [Option.some.injEq, Addr.mk.injEq, and_true] at h1
    obtain ⟨rfl, rfl⟩ := h1
    refine .inr ⟨g, off + lo * 2, rfl, fun j hj => ?_⟩
    rw [hl] at hj
    have := h2 (lo + j) (by omega)
    have he : ((ps.drop lo).take n)[j]'(by rw [hl]; exact hj) = ps[lo + j] := by simp
    rw [he, show off + lo * 2 + j * 2 = off + (lo + j) * 2 from by omega]
    exact this

/-- The room that pairs take. -/
def psize (p : PairX) : Nat := 4 + p.ks.length + p.vs.length
def psum (ps : List PairX) : Nat := (ps.map psize).sum
theorem psum_snoc (ps : List PairX) (j : Nat) (h : j < ps.length) : psum (ps.take (j + 1)) = psum (ps.take j) + psize ps[j] := by
  unfold psum
  rw [List.take_succ_eq_append_getElem h, List.map_append, List.sum_append]
  simp
theorem psum_take_le (ps : List PairX) : ∀ j, psum (ps.take j) ≤ psum ps := by
  intro j
  have h : psum ps = psum (ps.take j) + psum (ps.drop j) := by
    unfold psum
    rw [← List.sum_append, ← List.map_append, List.take_append_drop]
  omega
theorem psum_drop_le (ps : List PairX) : ∀ j, psum (ps.drop j) ≤ psum ps := by
  intro j
  have h : psum ps = psum (ps.take j) + psum (ps.drop j) := by
    unfold psum
    rw [← List.sum_append, ← List.map_append, List.take_append_drop]
  omega
theorem psum_len (ps : List PairX) : 4 * ps.length ≤ psum ps := by
  induction ps with
  | nil => simp [psum]
  | cons p r ih =>
    have : psum (p :: r) = psize p + psum r := by simp [psum]
    have h2 : 4 ≤ psize p := by unfold psize; omega
    simp only [List.length_cons]; omega

end Go.Proofs.Ytdeajjppmgfemaa
namespace Go.Proofs.Ytdeajjppmgfemaa
open Go.RowKit
set_option linter.unusedVariables false

/-- Where leaves end. -/
def LeafEnds (ps : List PairX) (f t : Nat) : Prop := (∃ p, ps[t - 1]? = some p ∧ MarkOf p.ks 0) ∨ 200 < psum ((ps.drop f).take (t + 1 - f))
open Classical in
noncomputable instance (ps : List PairX) : ∀ f t, Decidable (LeafEnds ps f t) := fun f t => propDecidable _

/-- A row of one number that was just made. -/
theorem own_lit7 {w : World} {base B : Nat} {e : TypeId} {z : Int} (hb : base ≤ B) (h : w.heap[B]? = some (.cells #[.int .i64 z] e (0, 0))) : w.ownsRow base e 1 (.slice (some ⟨B, 0, none⟩) 1 1) 1 (i64s [z]) :=
  ⟨rfl, .inr ⟨B, 1, #[.int .i64 z], rfl, hb, h, Nat.le_refl _, by unfold maxLen; omega, rfl, rfl⟩⟩

/-- The groups of pairs. -/
noncomputable def leavesOf (ps : List PairX) : List Int := if ps.length = 0 then [0] else (groupsTo (LeafEnds ps) ps.length ps.length).1

end Go.Proofs.Ytdeajjppmgfemaa
namespace Go.Proofs.Ytdeajjppmgfemaa
open Go.RowKit
set_option linter.unusedVariables false

theorem own_made_int (w : World) : (w.alloc (.cells #[] 3)).ownsRow w.heap.size 3 1 (.slice (some ⟨w.heap.size, 0, none⟩) 0 0) ([] : List Int).length (i64s []) := by
  have := World.ownsRow_made (base := w.heap.size) (e := 3) (size := 1) w #[] 0 (Nat.le_refl _) (by unfold maxLen; omega) (by simp)
  simpa [i64s] using this
theorem groupsTo_size {E : Nat → Nat → Prop} [∀ a b, Decidable (E a b)] {N f n : Nat} {zs : List Int} (hg : groupsTo E N (f + n - 1) = (zs, f)) (hn : 1 ≤ n) (h : f + n = N ∨ E f (f + n)) : groupsTo E N (f + n) = (zs ++ [(n : Int)], f + n) := by
  obtain ⟨m, rfl⟩ : ∃ m, n = m + 1 := ⟨n - 1, by omega⟩
  have e : f + (m + 1) - 1 = f + m := by omega
  rw [e] at hg
  have := groupsTo_end' (k := f + m) hg h
  rw [show f + (m + 1) = f + m + 1 from rfl, this]
  congr 2
  simp; omega
theorem groupsTo_more {E : Nat → Nat → Prop} [∀ a b, Decidable (E a b)] {N f n : Nat} {zs : List Int} (hg : groupsTo E N (f + n - 1) = (zs, f)) (hn : 1 ≤ n) (h : ¬ f + n = N) (h2 : ¬ E f (f + n)) : groupsTo E N (f + (n + 1) - 1) = (zs, f) := by
  obtain ⟨m, rfl⟩ : ∃ m, n = m + 1 := ⟨n - 1, by omega⟩
  have e : f + (m + 1) - 1 = f + m := by omega
  rw [e] at hg
  exact groupsTo_on' (k := f + m) hg h h2

/-- The groups of kids. -/
noncomputable def innerOf (rs : List (Value × List UInt8)) (level : Int) : List Int := (groupsTo (InnerEnds rs level) rs.length rs.length).1

end Go.Proofs.Ytdeajjppmgfemaa
namespace Go.Proofs.Ytdeajjppmgfemaa
open Go.RowKit
set_option linter.unusedVariables false

/-- What Great tells: false only of pairs that aren't many. -/
def GreatPost (w : World) (ps : List PairX) (e : Ending) (w' : World) : Prop := ∃ b, e = .returned (.bool b) ∧ (∃ m, w' = w.drewN m) ∧ (b = false → psum ps + 4 * ps.length ≤ 8000)
theorem GreatPost.yes (w : World) (ps : List PairX) (m : Nat) : GreatPost w ps (.returned (.bool true)) (w.drewN m) := ⟨true, rfl, ⟨m, rfl⟩, fun e => by cases e⟩

set_option maxRecDepth 100000 in
set_option maxHeartbeats 3200000 in
theorem great_any (ao : Option Addr) (n cap : Nat) (ps : List PairX) (w : World) (hr : Pairs w ao ps) (hn : ps.length = n) (hl : n ≤ 9223372036854775807) :
    Calls Try.prog 15 #[.slice ao n cap] w (GreatPost w ps) := by
  have HR := Lib.hid hr
  have HN := Lib.hid hn
  clear hr hn
  go_enter Try.func15, Try.ntmps15
  go_wp2
  go_loopw [3, 4] (fun s i wr => ∃ j : Nat, j ≤ n ∧ i = .int .i64 j ∧ (∃ z : Nat, z = psum (ps.take j) + 4 * j ∧ z ≤ 30000 ∧ s = .int .i64 z) ∧ ∃ m, wr = w.drewN m) (fun _ i _ => n - (intOf i).toNat)
  case atStart => exact ⟨0, by omega, rfl, ⟨0, by simp [psum], by omega, rfl⟩, 0, rfl⟩
  case round =>
    obtain ⟨j, hj, rfl, ⟨z, hz, hzl, rfl⟩, m, rfl⟩ := hrel
    have HZ := Lib.hid hz
    clear hz
    by_cases hq : (z : Int) ≤ 8000
    · by_cases hlt : j < n
      · have hjl : j < ps.length := by have := HN.out; omega
        obtain ⟨g, off, ko, kc, vo, vc, rfl, -, -, c0, c1, -, -⟩ := HR.out.at hjl
        have hsn := psum_snoc ps j hjl
        have hps : psize ps[j] = 4 + ps[j].ks.length + ps[j].vs.length := rfl
        generalize ps[j] = p at *
        obtain ⟨kl, hkl⟩ : ∃ kl, p.ks.length = kl := ⟨_, rfl⟩
        obtain ⟨vl, hvl⟩ : ∃ vl, p.vs.length = vl := ⟨_, rfl⟩
        have HSN : Hid (psum (ps.take (j + 1)) + 4 * (j + 1) = z + (8 + kl + vl)) := Lib.hid (by rw [hsn, HZ.out, hps, hkl, hvl]; omega)
        rw [hkl] at c0
        rw [hvl] at c1
        clear hsn hps hkl hvl
        by_cases qk : (8000 : Int) < (kl : Int)
        · go_wp2
          go_ret
          exact GreatPost.yes _ _ _
        · by_cases qv : (8000 : Int) < (vl : Int)
          · go_wp2
            go_ret
            exact GreatPost.yes _ _ _
          · have w1 : IntKind.i64.wrap (8 + (kl : Int)) = 8 + (kl : Int) := IntWalk.i64_in _ (by omega)
            have w2 : IntKind.i64.wrap (8 + (kl : Int) + (vl : Int)) = 8 + (kl : Int) + (vl : Int) := IntWalk.i64_in _ (by omega)
            have w3 : IntKind.i64.wrap ((z : Int) + (8 + (kl : Int) + (vl : Int))) = (z : Int) + (8 + (kl : Int) + (vl : Int)) := IntWalk.i64_in _ (by omega)
            have hlt2 : (j : Int) < (n : Int) := by omega
            go_wp2
            go_quiet (fail)
            clear w1 w2 w3
            go_wp2
            go_roundw
            case rel => exact ⟨j + 1, by omega, by go_num, ⟨z + (8 + kl + vl), HSN.out.symm, by omega, by go_num⟩, _, rfl⟩
            case measure => simp [intOf]; omega
      · have hjn : j = n := by omega
        have HF : Hid (psum ps + 4 * ps.length ≤ 8000) := Lib.hid (by
          have h1 := HZ.out
          rw [List.take_of_length_le (by have := HN.out; omega)] at h1
          have := HN.out; omega)
        go_wp2
        go_ret
        exact ⟨_, rfl, ⟨m, rfl⟩, fun _ => HF.out⟩
    · by_cases hlt : j < n
      · go_wp2
        go_ret
        exact GreatPost.yes _ _ _
      · go_wp2
        go_ret
        exact GreatPost.yes _ _ _

theorem psum_part (ps : List PairX) (f n : Nat) (h : f + n < ps.length) : psum ((ps.drop f).take (n + 1)) = psum ((ps.drop f).take n) + (4 + ps[f + n].ks.length + ps[f + n].vs.length) := by
  have hl : n < (ps.drop f).length := by rw [List.length_drop]; omega
  rw [psum_snoc (ps.drop f) n hl]
  simp [psize]
theorem psum_part_le (ps : List PairX) (f n : Nat) : psum ((ps.drop f).take n) ≤ psum ps := Nat.le_trans (psum_take_le _ n) (psum_drop_le ps f)

end Go.Proofs.Ytdeajjppmgfemaa
