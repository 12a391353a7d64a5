/- What pack.NewEye and (*pack.Eye).Text do. -/
import Derived.Test.YtafgiljgefeefaaDoorPack3
import Derived.Deep.QuietTactic
import Derived.BigQuiet
import Derived.Lib.EndianBits
namespace Go.Proofs.YtafgiljgefeefaaDoor
open Go.RowKit
set_option linter.unusedVariables false

theorem add_at (g i j : Nat) : (⟨g, i, none⟩ : Addr).add j = ⟨g, i + j, none⟩ := by unfold Addr.add; split <;> simp_all
/-- Block B is a struct (type T) of a slice that reads as the bytes bs (its row is another block), and of a number up to which they were read. -/
structure Eye (T E : TypeId) (w : World) (B : Nat) (v : Value) (bs : List UInt8) (i : Nat) : Prop where
  obj : w.heap[B]? = some (.cells #[v, .int .i64 i] T (0, 0))
  own : w.ownsRow 0 E 1 v bs.length (u8s bs)
  far : v.ownBlock ≠ some B
  le : i ≤ bs.length
theorem cell_of_two {w : World} {b : Nat} {v u : Value} {t : TypeId} (h : w.heap[b]? = some (.cells #[v, u] t (0, 0))) : w.cell? ⟨b, 0, none⟩ = some v ∧ w.cell? ⟨b, 1, none⟩ = some u ∧ w.frozen? ⟨b, 0, none⟩ = false ∧ w.frozen? ⟨b, 1, none⟩ = false := by simp [World.cell?, World.frozen?, h]
theorem two_set1 {w : World} {b : Nat} {v u x : Value} {t : TypeId} (h : w.heap[b]? = some (.cells #[v, u] t (0, 0))) : (w.setCell ⟨b, 1, none⟩ x).heap[b]? = some (.cells #[v, x] t (0, 0)) := by
  have hlt := lt_of_block h
  have hv := (Array.getElem?_eq_some_iff.1 h).2
  simp [World.setCell, Array.getElem?_modify, h]
theorem Eye.keeps {T E : TypeId} {w w' : World} {B : Nat} {v : Value} {bs : List UInt8} {i : Nat} (h : Eye T E w B v bs i) {S : Nat → Prop} (k : Keeps S w w') (hB : ¬ S B) (hr : ∀ j, v.ownBlock = some j → ¬ S j) : Eye T E w' B v bs i :=
  ⟨k.obj h.obj hB, own_keeps k h.own hr, h.far, h.le⟩
theorem Eye.drewN {T E : TypeId} {w : World} {B : Nat} {v : Value} {bs : List UInt8} {i : Nat} (h : Eye T E w B v bs i) (n : Nat) : Eye T E (w.drewN n) B v bs i := h.keeps ((Keeps.refl (fun _ => False) w).drewN n) (fun e => e) (fun _ _ e => e)
theorem Eye.set {T E : TypeId} {w : World} {B : Nat} {v : Value} {bs : List UInt8} {i j : Nat} (h : Eye T E w B v bs i) (hj : j ≤ bs.length) : Eye T E (w.setCell ⟨B, 1, none⟩ (.int .i64 j)) B v bs j :=
  ⟨two_set1 h.obj, ownsRow_setCell_other h.own h.far _, h.far, hj⟩
theorem Eye.form {T E : TypeId} {w : World} {B : Nat} {v : Value} {bs : List UInt8} {i : Nat} (h : Eye T E w B v bs i) : (v = .slice none 0 0 ∧ bs = []) ∨ ∃ g cap, v = .slice (some ⟨g, 0, none⟩) bs.length cap ∧ bs.length ≤ cap := by
  rcases h.own.2 with ⟨rfl, h0⟩ | ⟨g, cap, cur, rfl, _, _, hc, _⟩
  · exact .inl ⟨rfl, List.length_eq_zero_iff.1 h0⟩
  · exact .inr ⟨g, cap, rfl, hc⟩
theorem Eye.lt {T E : TypeId} {w : World} {B : Nat} {v : Value} {bs : List UInt8} {i : Nat} (h : Eye T E w B v bs i) : B < w.heap.size := lt_of_block h.obj
/-- What is left of the eye's bytes reads as such. -/
theorem Eye.part {T E : TypeId} {w : World} {B g cap : Nat} {bs : List UInt8} {i n : Nat} (h : Eye T E w B (.slice (some ⟨g, 0, none⟩) bs.length cap) bs i) (hn : i + n ≤ bs.length) (c : Nat) :
    Bytes w (.slice (some ⟨g, i, none⟩) n c) ((bs.drop i).take n) := by
  have hl : ((bs.drop i).take n).length = n := by simp; omega
  refine .inl ⟨⟨g, i, none⟩, c, by rw [hl], fun j u hu => ?_⟩
  have hj : j < n := by
    have := (List.getElem?_eq_some_iff.1 hu).1
    rw [u8s_length, hl] at this; exact this
  have hadd : (⟨g, i, none⟩ : Addr).add j = ⟨g, i + j, none⟩ := by unfold Addr.add; split <;> simp_all
  have hadd2 : (⟨g, 0, none⟩ : Addr).add (i + j) = ⟨g, i + j, none⟩ := by unfold Addr.add; split <;> simp_all
  rw [hadd, ← hadd2]
  refine h.own.cells rfl (i + j) u ?_
  rw [← hu]
  simp [u8s, hj, List.getElem?_drop]

/-- The same at the address that a slice expression makes. -/
theorem Eye.slice {T E : TypeId} {w : World} {B g cap : Nat} {bs : List UInt8} {i n : Nat} (h : Eye T E w B (.slice (some ⟨g, 0, none⟩) bs.length cap) bs i) (hn : i + n ≤ bs.length) (hc : bs.length ≤ cap) :
    ∃ ad : Addr, (if cap = i then some (⟨g, 0, none⟩ : Addr) else some ⟨g, i, none⟩) = some ad ∧ ad.spot = none ∧ ad.block = g ∧ ∀ c, Bytes w (.slice (some ad) n c) ((bs.drop i).take n) := by
  by_cases e : cap = i
  · refine ⟨_, if_pos e, rfl, rfl, fun c => ?_⟩
    have h0 : n = 0 := by omega
    subst h0
    exact Bytes.nil _ _ _
  · exact ⟨_, if_neg e, rfl, rfl, fun c => h.part hn c⟩

set_option maxRecDepth 100000 in
set_option maxHeartbeats 800000 in
theorem left_any (B : Nat) (v : Value) (bs : List UInt8) (i : Nat) (w : World) (h : Eye 104 5 w B v bs i) (hl : bs.length ≤ 140737488351232) :
    Calls Tryd.prog 68 #[.pointer (some ⟨B, 0, none⟩)] w fun e w' => e = .returned (.int .i64 ((bs.length : Int) - i)) ∧ ∃ n, w' = w.drewN n := by
  obtain ⟨c0, c1, _, _⟩ := cell_of_two h.obj
  have hi := h.le
  obtain ⟨ao, cap, rfl⟩ : ∃ ao cap, v = .slice ao bs.length cap := by
    rcases h.form with ⟨rfl, rfl⟩ | ⟨g, cap, rfl, _⟩
    · exact ⟨_, _, rfl⟩
    · exact ⟨_, _, rfl⟩
  have hi2 : (i : Int) ≤ (bs.length : Int) := by omega
  have hl2 : (bs.length : Int) ≤ 140737488351232 := by omega
  clear h
  go_enter Tryd.func68, Tryd.ntmps68
  go_wp2
  go_quiet (fail)
  go_wp2
  go_ret
  exact ⟨rfl, _, rfl⟩

/-- Clone, of a slice whose length is spelt otherwise. -/
theorem clone_at (a : Addr) (n c : Nat) (bs : List UInt8) (w : World) (hx : Bytes w (.slice (some a) n c) bs) (hn : bs.length = n) (hl : n ≤ 140737488351232) :
    Calls Tryd.prog 56 #[.slice (some a) n c] w fun e w' => ∃ v, e = .returned v ∧ w'.ownsRow w.heap.size 5 1 v n (u8s bs) ∧ Same w w' ∧ v ≠ .slice none 0 0 := by
  subst hn; exact clone_some a c bs w hx hl

end Go.Proofs.YtafgiljgefeefaaDoor
namespace Go.Proofs.YtafgiljgefeefaaDoor
open Go.RowKit
set_option linter.unusedVariables false

set_option maxRecDepth 100000 in
set_option maxHeartbeats 800000 in
theorem eye_raw_neg (p : Value) (n : Int) (w : World) (hn : n < 0) :
    Calls Tryd.prog 58 #[p, .int .i64 n] w fun e w' => e = .returned (.tuple #[.slice none 0 0, .int .i64 1]) ∧ w = w' := by
  go_enter Tryd.func58, Tryd.ntmps58
  go_wp2
  go_ret2
  exact ⟨rfl, rfl⟩

set_option maxRecDepth 100000 in
set_option maxHeartbeats 800000 in
theorem eye_raw_short (B : Nat) (v : Value) (bs : List UInt8) (i : Nat) (n : Int) (w : World) (h : Eye 104 5 w B v bs i) (hl : bs.length ≤ 140737488351232) (hn : ((bs.length : Int) - i) < n) :
    Calls Tryd.prog 58 #[.pointer (some ⟨B, 0, none⟩), .int .i64 n] w fun e w' => e = .returned (.tuple #[.slice none 0 0, .int .i64 20]) ∧ ∃ k, w' = w.drewN k := by
  have h0 := h.le
  have h1 : ¬ n < 0 := by omega
  go_enter Tryd.func58, Tryd.ntmps58
  go_wp2_with fail
  ((with_reducible refine (left_any B v bs i _ h hl).mono ?_); rintro e w1 ⟨rfl, k, rfl⟩)
  go_wp2
  go_ret2
  exact ⟨rfl, k, rfl⟩

set_option maxRecDepth 100000 in
set_option maxHeartbeats 1600000 in
theorem eye_raw_some (B g cap : Nat) (bs : List UInt8) (i n : Nat) (w : World) (h : Eye 104 5 w B (.slice (some ⟨g, 0, none⟩) bs.length cap) bs i) (hl : bs.length ≤ 140737488351232) (hn : i + n ≤ bs.length) (hcap : bs.length ≤ cap) :
    Calls Tryd.prog 58 #[.pointer (some ⟨B, 0, none⟩), .int .i64 n] w fun e w' => ∃ r, e = .returned (.tuple #[r, .int .i64 0]) ∧ w'.ownsRow w.heap.size 5 1 r n (u8s ((bs.drop i).take n)) ∧
      Eye 104 5 w' B (.slice (some ⟨g, 0, none⟩) bs.length cap) bs (i + n) ∧ Keeps (fun k => k = B) w w' := by
  obtain ⟨c0, c1, f0, f1⟩ := cell_of_two h.obj
  have h1 : ¬ (n : Int) < 0 := by omega
  have h2 : (n : Int) ≤ (bs.length : Int) - (i : Int) := by omega
  have s1 : (0 : Int) ≤ (i : Int) := by omega
  have s2 : (i : Int) ≤ (i : Int) + (n : Int) := by omega
  have s3 : (i : Int) + (n : Int) ≤ (cap : Int) := by omega
  have s4 : (i : Int) + (n : Int) ≤ 140737488351232 := by omega
  have s5 : IntKind.i64.wrap ((i : Int) + (n : Int)) = (i : Int) + (n : Int) := IntWalk.i64_in _ (by omega)
  have s6 : ((i : Int) + (n : Int)).toNat = i + n := by omega
  have s7 : (0 : Int) ≤ (i : Int) + (n : Int) := by omega
  have H := Lib.hid h
  have hB := h.lt
  have hlen : ((bs.drop i).take n).length = n := by simp; omega
  obtain ⟨ad, had, hsp, hbl, hpart⟩ := h.slice hn hcap
  have HPA := Lib.hid hpart
  have HBL := Lib.hid hbl
  clear h hpart hsp hbl
  go_enter Tryd.func58, Tryd.ntmps58
  go_wp2_with fail
  ((with_reducible refine (left_any B _ bs i _ H.out hl).mono ?_); rintro e w1 ⟨rfl, k, rfl⟩)
  go_wp2_with fail
  go_region_held3 (fun w' => w'.cell? ⟨B, 0, none⟩ = some (.slice (some ⟨g, 0, none⟩) bs.length cap) ∧ w'.cell? ⟨B, 1, none⟩ = some (.int .i64 i))
    (first
      | go_keep
      | exact ⟨(World.cell?_of_block (hk.block B hB (fun e => e))).trans c0, (World.cell?_of_block (hk.block B hB (fun e => e))).trans c1⟩)
    (first
      | ((with_reducible refine (clone_at ad n (cap - i) ((bs.drop i).take n) _ ((HPA.out _).same ((Keeps.refl _ _).drewN (k + 1))) hlen (by omega)).mono ?_); rintro e w2 ⟨r, rfl, ho, hk, _⟩))
  have k0 : w2.cell? ⟨B, 1, none⟩ = some (.int .i64 i) := (World.cell?_of_block (hk.block B hB (fun e => e))).trans c1
  have k1 : w2.frozen? ⟨B, 1, none⟩ = false := (World.frozen?_of_block (hk.block B hB (fun e => e))).trans f1
  have HO := Lib.hid ho
  have HK := Lib.hid hk
  clear ho hk c0 c1 f0 f1
  go_wp2
  go_ret2
  have hH := H.out
  have hkk : Same w w2 := ((Keeps.refl _ _).drewN (k + 1)).trans HK.out (fun _ _ e => e)
  refine ⟨r, rfl, ?_, ?_, (hkk.any).setCell _ _ (.inr rfl)⟩
  · have ho := HO.out
    refine ownsRow_setCell_other ho (fun e => ?_) _
    have := (ho.lt B e).1
    have h3 : (w.drewN (k + 1)).heap.size = w.heap.size := rfl
    omega
  · have := (hH.keeps hkk (fun e => e) (fun _ _ e => e)).set (j := i + n) hn
    simpa using this

/-- Raw of what is there. -/
theorem eye_raw_ok (B : Nat) (v : Value) (bs : List UInt8) (i n : Nat) (w : World) (h : Eye 104 5 w B v bs i) (hl : bs.length ≤ 140737488351232) (hn : i + n ≤ bs.length) (hv : v ≠ .slice none 0 0) :
    Calls Tryd.prog 58 #[.pointer (some ⟨B, 0, none⟩), .int .i64 n] w fun e w' => ∃ r, e = .returned (.tuple #[r, .int .i64 0]) ∧ w'.ownsRow w.heap.size 5 1 r n (u8s ((bs.drop i).take n)) ∧
      Eye 104 5 w' B v bs (i + n) ∧ Keeps (fun k => k = B) w w' := by
  rcases h.form with ⟨rfl, rfl⟩ | ⟨g, cap, rfl, hc⟩
  · exact absurd rfl hv
  · exact eye_raw_some B g cap bs i n w h hl hn hc

end Go.Proofs.YtafgiljgefeefaaDoor
namespace Go.Proofs.YtafgiljgefeefaaDoor
open Go.RowKit
set_option linter.unusedVariables false

/-- The number of bytes, the greatest first. -/
def beVal (l : List UInt8) : Nat := l.foldl (fun n b => n * 256 + b.toNat) 0
theorem beVal_snoc (l : List UInt8) (b : UInt8) : beVal (l ++ [b]) = beVal l * 256 + b.toNat := by simp [beVal]
theorem beVal_from : ∀ (l : List UInt8) (n : Nat), l.foldl (fun n b => n * 256 + b.toNat) n < (n + 1) * 256 ^ l.length
  | [], n => by simp
  | b :: l, n => by
    have h := beVal_from l (n * 256 + b.toNat)
    have hb := b.toNat_lt
    rw [List.foldl_cons, List.length_cons, Nat.pow_succ, Nat.mul_comm (256 ^ l.length) 256, ← Nat.mul_assoc]
    exact Nat.lt_of_lt_of_le h (Nat.mul_le_mul_right _ (by omega))
theorem beVal_lt (l : List UInt8) : beVal l < 256 ^ l.length := by simpa [beVal] using beVal_from l 0

theorem u64_wrap_in (x : Int) (h0 : 0 ≤ x) (h1 : x < 18446744073709551616) : IntKind.u64.wrap x = x := by
  rw [IntKind.wrap_u64]; omega
theorem or_byte (a b : Nat) (ha : a < 72057594037927936) (hb : b < 256) : bits BinOp.or IntKind.u64 (IntKind.u64.wrap ((a : Int) * 256)) (IntKind.u64.wrap (b : Int)) = ((a * 256 + b : Nat) : Int) := by
  rw [u64_wrap_in _ (by omega) (by omega), u64_wrap_in _ (by omega) (by omega)]
  have hc : bits BinOp.or IntKind.u64 ((a : Int) * 256) (b : Int) = bits BinOp.or IntKind.u64 (b : Int) ((a : Int) * 256) := by simp only [bits, BitVec.or_comm]
  have h8 := u64_or8 (y := (b : Int)) (x := (a : Int) * 256) (by omega) (by omega) (by omega) (by omega) (by omega)
  refine hc.trans (h8.trans ?_)
  omega
theorem take_snoc (l : List UInt8) (j : Nat) (h : j < l.length) : l.take (j + 1) = l.take j ++ [l[j]?.getD 0] := by
  rw [List.take_succ_eq_append_getElem h]; simp [h]
theorem beVal_small (l : List UInt8) (j : Nat) (h : j < 8) : beVal (l.take j) < 72057594037927936 := by
  have h1 := beVal_lt (l.take j)
  have h2 : (l.take j).length ≤ 7 := by have := List.length_take_le j l; omega
  have h3 : 256 ^ (l.take j).length ≤ 256 ^ 7 := Nat.pow_le_pow_right (by omega) h2
  exact Nat.lt_of_lt_of_le h1 h3

theorem foldl_shift : ∀ (l : List UInt8) (n : Nat), l.foldl (fun n b => n * 256 + b.toNat) n = n * 256 ^ l.length + l.foldl (fun n b => n * 256 + b.toNat) 0
  | [], n => by simp
  | b :: l, n => by
    rw [List.foldl_cons, List.foldl_cons, foldl_shift l (n * 256 + b.toNat), foldl_shift l (0 * 256 + b.toNat), List.length_cons, Nat.pow_succ, Nat.add_mul, Nat.zero_mul, Nat.zero_add, Nat.mul_comm (256 ^ l.length) 256, ← Nat.mul_assoc]
    omega
theorem beVal_cons (b : UInt8) (l : List UInt8) : beVal (b :: l) = b.toNat * 256 ^ l.length + beVal l := by
  unfold beVal
  rw [List.foldl_cons, foldl_shift]
  simp

set_option maxRecDepth 100000 in
set_option maxHeartbeats 800000 in
theorem eye_uint_size (p : Value) (n : Int) (w : World) (hn : n < 1 ∨ 8 < n) :
    Calls Tryd.prog 57 #[p, .int .i64 n] w fun e w' => e = .returned (.tuple #[.int .u64 0, .int .i64 1]) ∧ w = w' := by
  have hs : (n < 1) ∨ (¬ n < 1 ∧ 8 < n) := by omega
  rcases hs with hs | ⟨hs, hs2⟩
  all_goals
    go_enter Tryd.func57, Tryd.ntmps57
    go_wp2
    go_ret2
    exact ⟨rfl, rfl⟩

set_option maxRecDepth 100000 in
set_option maxHeartbeats 800000 in
theorem eye_uint_short (B : Nat) (v : Value) (bs : List UInt8) (i : Nat) (n : Int) (w : World) (h : Eye 104 5 w B v bs i) (hl : bs.length ≤ 140737488351232) (h1 : 1 ≤ n) (h8 : n ≤ 8) (hn : ((bs.length : Int) - i) < n) :
    Calls Tryd.prog 57 #[.pointer (some ⟨B, 0, none⟩), .int .i64 n] w fun e w' => e = .returned (.tuple #[.int .u64 0, .int .i64 20]) ∧ ∃ k, w' = w.drewN k := by
  have h0 := h.le
  go_enter Tryd.func57, Tryd.ntmps57
  go_wp2_with fail
  ((with_reducible refine (left_any B v bs i _ h hl).mono ?_); rintro e w1 ⟨rfl, k, rfl⟩)
  go_wp2
  go_ret2
  exact ⟨rfl, k, rfl⟩

set_option maxRecDepth 100000 in
set_option maxHeartbeats 1600000 in
theorem eye_uint_some (B g cap : Nat) (bs : List UInt8) (i n : Nat) (w : World) (h : Eye 104 5 w B (.slice (some ⟨g, 0, none⟩) bs.length cap) bs i) (hl : bs.length ≤ 140737488351232) (hn : i + n ≤ bs.length) (hcap : bs.length ≤ cap) (hn1 : 1 ≤ n) (hn8 : n ≤ 8) :
    Calls Tryd.prog 57 #[.pointer (some ⟨B, 0, none⟩), .int .i64 n] w fun e w' => e = .returned (.tuple #[.int .u64 (beVal ((bs.drop i).take n) : Nat), .int .i64 0]) ∧
      Eye 104 5 w' B (.slice (some ⟨g, 0, none⟩) bs.length cap) bs (i + n) ∧ Keeps (fun k => k = B) w w' := by
  obtain ⟨c0, c1, f0, f1⟩ := cell_of_two h.obj
  have h1 : ¬ (n : Int) < 1 := by omega
  have h8 : ¬ (8 : Int) < (n : Int) := by omega
  have h2 : (n : Int) ≤ (bs.length : Int) - (i : Int) := by omega
  have s1 : (0 : Int) ≤ (i : Int) := by omega
  have s2 : (i : Int) ≤ (i : Int) + (n : Int) := by omega
  have s3 : (i : Int) + (n : Int) ≤ (cap : Int) := by omega
  have s4 : (i : Int) + (n : Int) ≤ 140737488351232 := by omega
  have s5 : IntKind.i64.wrap ((i : Int) + (n : Int)) = (i : Int) + (n : Int) := IntWalk.i64_in _ (by omega)
  have s6 : ((i : Int) + (n : Int)).toNat = i + n := by omega
  have s7 : (0 : Int) ≤ (i : Int) + (n : Int) := by omega
  have s8 : ¬ cap = i := by omega
  have H := Lib.hid h
  have hB := h.lt
  have hpart := h.part hn (cap - i)
  have hcell : ∀ j, j < n → w.cell? ⟨g, i + j, none⟩ = some (.int .u8 (((bs.drop i).take n).getD j 0).toNat) := by
    intro j hj
    rcases hpart with ⟨a, c, e1, e2⟩ | ⟨c, e1, _⟩
    · simp only [Value.slice.injEq, Option.some.injEq] at e1
      obtain ⟨rfl, _, _⟩ := e1
      have := e2 j _ (u8s_get _ j (by simp; omega))
      rw [add_at] at this
      exact this
    · simp at e1
  have HC := Lib.hid hcell
  have hlen : ((bs.drop i).take n).length = n := by simp; omega
  generalize hpp : (bs.drop i).take n = part at *
  have HL := Lib.hid hlen
  have HPP := Lib.hid hpp
  clear h hpart hcell hlen hpp
  go_enter Tryd.func57, Tryd.ntmps57
  go_wp2_with fail
  ((with_reducible refine (left_any B _ bs i _ H.out hl).mono ?_); rintro e w1 ⟨rfl, k, rfl⟩)
  go_wp2_with fail
  go_region_held3 (fun w' => w'.cell? ⟨B, 0, none⟩ = some (.slice (some ⟨g, 0, none⟩) bs.length cap) ∧ w'.cell? ⟨B, 1, none⟩ = some (.int .i64 i))
    (go_keep) (fail)
  go_wp2
  go_loop [6, 35] (fun t u => ∃ j : Nat, j ≤ n ∧ u = .int .i64 j ∧ t = .int .u64 (beVal (part.take j) : Nat)) (fun _ u => n - (intOf u).toNat)
  case atStart => exact ⟨0, by omega, rfl, by simp [beVal]⟩
  case round =>
    obtain ⟨j, hj, rfl, rfl⟩ := hrel
    by_cases hlt : j < n
    · have hc := HC.out j hlt
      go_wp2
      go_round
      case rel =>
        have hlt' : j < part.length := by rw [HL.out]; exact hlt
        have e : (bits BinOp.or IntKind.u64 (IntKind.u64.wrap ((beVal (part.take j) : Nat) * 256)) (IntKind.u64.wrap ((part[j]?.getD 0).toNat : Int))) = (beVal (part.take (j + 1)) : Nat) := by
          rw [or_byte _ _ (beVal_small part j (by omega)) (UInt8.toNat_lt _), take_snoc part j hlt', beVal_snoc]
        rw [e]
        (repeat apply Exists.intro)
        refine ⟨⟨j + 1, by omega, ?_, rfl⟩, rfl, rfl, rfl⟩
        go_num
      case measure => simp [intOf]; omega
    · have hjn : j = n := by omega
      have hb2 : part.take j = part := by rw [hjn]; exact List.take_of_length_le (by rw [HL.out]; exact Nat.le_refl _)
      rw [hb2]
      have HJ := Lib.hid hjn
      clear hjn hb2
      go_wp2
      go_ret2
      have hkk : Same w ((w.drewN k).drew) := ((Keeps.refl _ _).drewN k).drew
      refine ⟨rfl, ?_, (hkk.any).setCell _ _ (.inr rfl)⟩
      have := (H.out.keeps hkk (fun e => e) (fun _ _ e => e)).set (j := i + n) hn
      simpa using this

/-- Uint of what is there. -/
theorem eye_uint_ok (B : Nat) (v : Value) (bs : List UInt8) (i n : Nat) (N : Int) (w : World) (h : Eye 104 5 w B v bs i) (hl : bs.length ≤ 140737488351232) (hn : i + n ≤ bs.length) (hn1 : 1 ≤ n) (hn8 : n ≤ 8) (hN : N = (n : Int)) :
    Calls Tryd.prog 57 #[.pointer (some ⟨B, 0, none⟩), .int .i64 N] w fun e w' => e = .returned (.tuple #[.int .u64 (beVal ((bs.drop i).take n) : Nat), .int .i64 0]) ∧
      Eye 104 5 w' B v bs (i + n) ∧ Keeps (fun k => k = B) w w' := by
  subst hN
  rcases h.form with ⟨rfl, rfl⟩ | ⟨g, cap, rfl, hc⟩
  · simp at hn; omega
  · exact eye_uint_some B g cap bs i n w h hl hn hc hn1 hn8

end Go.Proofs.YtafgiljgefeefaaDoor
namespace Go.Proofs.YtafgiljgefeefaaDoor
open Go.RowKit
set_option linter.unusedVariables false

/-- An eye that was made by this call. -/
structure NewAt (w w' : World) (B : Nat) (v : Value) (bs : List UInt8) : Prop where
  eye : Eye 104 5 w' B v bs 0
  same : Same w w'
  new : w.heap.size ≤ B
  row : ∀ j, v.ownBlock = some j → w.heap.size ≤ j

set_option maxRecDepth 100000 in
set_option maxHeartbeats 800000 in
theorem neweye_some (a : Addr) (n c : Nat) (bs : List UInt8) (w : World) (hx : Bytes w (.slice (some a) n c) bs) (hn : bs.length = n) (hl : n ≤ 140737488351232) :
    Calls Tryd.prog 41 #[.slice (some a) n c] w fun e w' => ∃ B v, e = .returned (.pointer (some ⟨B, 0, none⟩)) ∧ NewAt w w' B v bs ∧ v ≠ .slice none 0 0 := by
  go_enter Tryd.func41, Tryd.ntmps41
  go_wp2_with fail
  ((with_reducible refine (clone_at a n c bs _ hx hn hl).mono ?_); rintro e w1 ⟨v, rfl, ho, hk, hv⟩)
  obtain ⟨g, cap, rfl⟩ : ∃ g cap, v = .slice (some ⟨g, 0, none⟩) n cap := by
    rcases ho.2 with ⟨h, _⟩ | ⟨g, cap, _, h, _⟩
    · exact absurd h hv
    · exact ⟨g, cap, h⟩
  have HO := Lib.hid ho
  have HK := Lib.hid hk
  have HV := Lib.hid hv
  clear ho hk hv hx
  go_wp2
  go_ret
  have ho := HO.out
  refine ⟨w1.heap.size, _, rfl, ⟨⟨heap_alloc_new w1 _, ?_, ?_, Nat.zero_le _⟩, HK.out.alloc _, HK.out.size, fun j e => (ho.lt j e).1⟩, HV.out⟩
  · rw [hn]; exact own_keeps ((Keeps.refl (fun _ => False) w1).alloc _) (own_base ho (Nat.zero_le _)) (fun _ _ e => e)
  · intro e; have := (ho.lt _ e).2; omega

set_option maxRecDepth 100000 in
set_option maxHeartbeats 800000 in
theorem neweye_nil (w : World) :
    Calls Tryd.prog 41 #[.slice none 0 0] w fun e w' => ∃ B v, e = .returned (.pointer (some ⟨B, 0, none⟩)) ∧ NewAt w w' B v [] := by
  go_enter Tryd.func41, Tryd.ntmps41
  go_wp2_with fail
  ((with_reducible refine (clone_nil 0 _).mono ?_); rintro e w1 ⟨rfl, rfl⟩)
  go_wp2
  go_ret
  exact ⟨w.heap.size, _, rfl, ⟨heap_alloc_new w _, World.ownsRow_nil _ _ _ _, by simp [Value.ownBlock], Nat.zero_le _⟩, (Keeps.refl _ _).alloc _, Nat.le_refl _, fun j e => by simp [Value.ownBlock] at e⟩

/-- NewEye of an owned row, a nil one too. -/
theorem neweye_own (base : Nat) (x : Value) (bs : List UInt8) (w : World) (ho : w.ownsRow base 5 1 x bs.length (u8s bs)) (hl : bs.length ≤ 140737488351232) :
    Calls Tryd.prog 41 #[x] w fun e w' => ∃ B v, e = .returned (.pointer (some ⟨B, 0, none⟩)) ∧ NewAt w w' B v bs ∧ (bs ≠ [] → v ≠ .slice none 0 0) := by
  have hb := Bytes.of_own ho
  rcases ho.2 with ⟨rfl, h0⟩ | ⟨g, cap, cur, rfl, _⟩
  · have h0' : bs = [] := List.length_eq_zero_iff.1 h0
    subst h0'
    exact (neweye_nil w).mono fun e w' ⟨B, v, h1, h2⟩ => ⟨B, v, h1, h2, fun e => absurd rfl e⟩
  · exact (neweye_some ⟨g, 0, none⟩ bs.length cap bs w hb rfl hl).mono fun e w' ⟨B, v, h1, h2, h3⟩ => ⟨B, v, h1, h2, fun _ => h3⟩

set_option maxRecDepth 100000 in
set_option maxHeartbeats 800000 in
theorem eye_text_short1 (B : Nat) (v : Value) (bs : List UInt8) (i : Nat) (w : World) (h : Eye 104 5 w B v bs i) (hl : bs.length ≤ 140737488351232) (hn : bs.length < i + 2) :
    Calls Tryd.prog 44 #[.pointer (some ⟨B, 0, none⟩)] w fun e w' => e = .returned (.tuple #[.slice none 0 0, .int .i64 20]) ∧ ∃ k, w' = w.drewN k := by
  obtain ⟨c0, c1, f0, f1⟩ := cell_of_two h.obj
  have H := Lib.hid h
  have hle := h.le
  clear h
  go_enter Tryd.func44, Tryd.ntmps44
  go_wp2_with fail
  ((with_reducible refine (eye_uint_short B v bs i 2 _ H.out hl (by omega) (by omega) (by omega)).mono ?_); rintro e w1 ⟨rfl, k, rfl⟩)
  go_wp2
  go_ret2
  exact ⟨rfl, k, rfl⟩

set_option maxRecDepth 100000 in
set_option maxHeartbeats 800000 in
theorem eye_text_short2 (B : Nat) (v : Value) (bs : List UInt8) (i : Nat) (w : World) (h : Eye 104 5 w B v bs i) (hl : bs.length ≤ 140737488351232) (hn : i + 2 ≤ bs.length) (hm : bs.length < i + 2 + beVal ((bs.drop i).take 2)) :
    Calls Tryd.prog 44 #[.pointer (some ⟨B, 0, none⟩)] w fun e w' => e = .returned (.tuple #[.slice none 0 0, .int .i64 20]) ∧ Eye 104 5 w' B v bs i ∧ Keeps (fun k => k = B) w w' := by
  obtain ⟨c0, c1, f0, f1⟩ := cell_of_two h.obj
  have H := Lib.hid h
  have hle := h.le
  have hbv : beVal ((bs.drop i).take 2) < 65536 := by
    have h1 := beVal_lt ((bs.drop i).take 2)
    rw [show ((bs.drop i).take 2).length = 2 from by simp; omega] at h1
    exact h1
  generalize hpp : beVal ((bs.drop i).take 2) = m at *
  have HPP := Lib.hid hpp
  have hm1 : (m : Int) < 65536 := by omega
  have hm2 : (0 : Int) ≤ (m : Int) := by omega
  clear h hpp
  go_enter Tryd.func44, Tryd.ntmps44
  go_wp2_with fail
  ((with_reducible refine (eye_uint_ok B v bs i 2 2 _ H.out hl hn (by omega) (by omega) (by omega)).mono ?_); rintro e w1 ⟨rfl, he, hk⟩)
  rw [HPP.out]
  have HE := Lib.hid he
  have HK := Lib.hid hk
  clear he hk
  go_wp2_with fail
  ((with_reducible refine (eye_raw_short B v bs (i + 2) m _ HE.out hl (by omega)).mono ?_); rintro e w2 ⟨rfl, k, rfl⟩)
  obtain ⟨d0, d1, g0, g1⟩ := cell_of_two (HE.out.drewN k).obj
  clear c0 c1 f0 f1 d0 g0
  go_wp2
  go_ret2
  have := (HE.out.drewN k).set (j := i) (by omega)
  refine ⟨rfl, by simpa using this, ?_⟩
  exact (HK.out.drewN k).setCell _ _ (.inr rfl)

/-- A text that isn't there whole is not read. -/
theorem eye_text_fail (B : Nat) (v : Value) (bs : List UInt8) (i : Nat) (w : World) (h : Eye 104 5 w B v bs i) (hl : bs.length ≤ 140737488351232) (hm : bs.length < i + 2 ∨ bs.length < i + 2 + beVal ((bs.drop i).take 2)) :
    Calls Tryd.prog 44 #[.pointer (some ⟨B, 0, none⟩)] w fun e w' => e = .returned (.tuple #[.slice none 0 0, .int .i64 20]) ∧ Eye 104 5 w' B v bs i ∧ Keeps (fun k => k = B) w w' := by
  by_cases h2 : bs.length < i + 2
  · exact (eye_text_short1 B v bs i w h hl h2).mono fun e w' ⟨he, k, hk⟩ => ⟨he, hk ▸ h.drewN k, hk ▸ (Keeps.refl _ _).drewN k⟩
  · exact eye_text_short2 B v bs i w h hl (by omega) (by omega)

set_option maxRecDepth 100000 in
set_option maxHeartbeats 800000 in
theorem eye_text_ok (B : Nat) (v : Value) (bs : List UInt8) (i m : Nat) (w : World) (h : Eye 104 5 w B v bs i) (hl : bs.length ≤ 140737488351232) (hn : i + 2 + m ≤ bs.length) (hbm : beVal ((bs.drop i).take 2) = m) (hv : v ≠ .slice none 0 0) :
    Calls Tryd.prog 44 #[.pointer (some ⟨B, 0, none⟩)] w fun e w' => ∃ r, e = .returned (.tuple #[r, .int .i64 0]) ∧ w'.ownsRow w.heap.size 5 1 r m (u8s ((bs.drop (i + 2)).take m)) ∧
      Eye 104 5 w' B v bs (i + 2 + m) ∧ Keeps (fun k => k = B) w w' := by
  obtain ⟨c0, c1, f0, f1⟩ := cell_of_two h.obj
  have H := Lib.hid h
  have HV := Lib.hid hv
  have HPP := Lib.hid hbm
  have hm1 : (m : Int) ≤ 140737488351232 := by omega
  have hm2 : (0 : Int) ≤ (m : Int) := by omega
  clear h hbm hv
  go_enter Tryd.func44, Tryd.ntmps44
  go_wp2_with fail
  ((with_reducible refine (eye_uint_ok B v bs i 2 2 _ H.out hl (by omega) (by omega) (by omega) (by omega)).mono ?_); rintro e w1 ⟨rfl, he, hk⟩)
  rw [HPP.out]
  have HE := Lib.hid he
  have HK := Lib.hid hk
  have hz := hk.size
  clear he hk
  go_wp2_with fail
  ((with_reducible refine (eye_raw_ok B v bs (i + 2) m _ HE.out hl hn HV.out).mono ?_); rintro e w2 ⟨r, rfl, ho, he, hk⟩)
  have HO := Lib.hid ho
  have HE2 := Lib.hid he
  have HK2 := Lib.hid hk
  clear ho he hk c0 c1 f0 f1
  go_wp2
  go_ret2
  exact ⟨r, rfl, own_base HO.out hz, HE2.out, HK.out.trans HK2.out (fun _ _ e => e)⟩

end Go.Proofs.YtafgiljgefeefaaDoor
