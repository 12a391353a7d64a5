/- What (*pack.Eye).Uint does. -/
import Derived.Test.YtickphkeeflbbaaEye2
import Derived.Lib.EndianBits
namespace Go.Proofs.Ytickphkeeflbbaa
open Go.RowKit
set_option linter.unusedVariables false

/-- The number of bytes, the greatest first. -/
def beVal (l : List UInt8) : Nat := l.foldl (fun n b => n * 256 + b.toNat) 0
theorem beVal_snoc (l : List UInt8) (b : UInt8) : beVal (l ++ [b]) = beVal l * 256 + b.toNat := by simp [beVal]
theorem beVal_from : ∀ (l : List UInt8) (n : Nat), l.foldl (fun n b => n * 256 + b.toNat) n < (n + 1) * 256 ^ l.length
  | [], n => by simp
  | b :: l, n => by
    have h := beVal_from l (n * 256 + b.toNat)
    have hb := b.toNat_lt
    rw [List.foldl_cons, List.length_cons, Nat.pow_succ, Nat.mul_comm (256 ^ l.length) 256, ← Nat.mul_assoc]
    exact Nat.lt_of_lt_of_le h (Nat.mul_le_mul_right _ (by omega))
theorem beVal_lt (l : List UInt8) : beVal l < 256 ^ l.length := by simpa [beVal] using beVal_from l 0

theorem u64_wrap_in (x : Int) (h0 : 0 ≤ x) (h1 : x < 18446744073709551616) : IntKind.u64.wrap x = x := by
  rw [IntKind.wrap_u64]; omega
theorem or_byte (a b : Nat) (ha : a < 72057594037927936) (hb : b < 256) : bits BinOp.or IntKind.u64 (IntKind.u64.wrap ((a : Int) * 256)) (IntKind.u64.wrap (b : Int)) = ((a * 256 + b : Nat) : Int) := by
  rw [u64_wrap_in _ (by omega) (by omega), u64_wrap_in _ (by omega) (by omega)]
  have hc : bits BinOp.or IntKind.u64 ((a : Int) * 256) (b : Int) = bits BinOp.or IntKind.u64 (b : Int) ((a : Int) * 256) := by simp only [bits, BitVec.or_comm]
  have h8 := u64_or8 (y := (b : Int)) (x := (a : Int) * 256) (by omega) (by omega) (by omega) (by omega) (by omega)
  refine hc.trans (h8.trans ?_)
  omega
theorem take_snoc (l : List UInt8) (j : Nat) (h : j < l.length) : l.take (j + 1) = l.take j ++ [l[j]?.getD 0] := by
  rw [List.take_succ_eq_append_getElem h]; simp [h]
theorem beVal_small (l : List UInt8) (j : Nat) (h : j < 8) : beVal (l.take j) < 72057594037927936 := by
  have h1 := beVal_lt (l.take j)
  have h2 : (l.take j).length ≤ 7 := by have := List.length_take_le j l; omega
  have h3 : 256 ^ (l.take j).length ≤ 256 ^ 7 := Nat.pow_le_pow_right (by omega) h2
  exact Nat.lt_of_lt_of_le h1 h3

theorem foldl_shift : ∀ (l : List UInt8) (n : Nat), l.foldl (fun n b => n * 256 + b.toNat) n = n * 256 ^ l.length + l.foldl (fun n b => n * 256 + b.toNat) 0
  | [], n => by simp
  | b :: l, n => by
    rw [List.foldl_cons, List.foldl_cons, foldl_shift l (n * 256 + b.toNat), foldl_shift l (0 * 256 + b.toNat), List.length_cons, Nat.pow_succ, Nat.add_mul, Nat.zero_mul, Nat.zero_add, Nat.mul_comm (256 ^ l.length) 256, ← Nat.mul_assoc]
    omega
theorem beVal_cons (b : UInt8) (l : List UInt8) : beVal (b :: l) = b.toNat * 256 ^ l.length + beVal l := by
  unfold beVal
  rw [List.foldl_cons, foldl_shift]
  simp

set_option maxRecDepth 100000 in
set_option maxHeartbeats 800000 in
theorem eye_uint_size (p : Value) (n : Int) (w : World) (hn : n < 1 ∨ 8 < n) :
    Calls Try.prog 44 #[p, .int .i64 n] w fun e w' => e = .returned (.tuple #[.int .u64 0, .int .i64 1]) ∧ w = w' := by
  have hs : (n < 1) ∨ (¬ n < 1 ∧ 8 < n) := by omega
  rcases hs with hs | ⟨hs, hs2⟩
  all_goals
    go_enter Try.func44, Try.ntmps44
    go_wp2
    go_ret2
    exact ⟨rfl, rfl⟩

set_option maxRecDepth 100000 in
set_option maxHeartbeats 800000 in
theorem eye_uint_short (B : Nat) (v : Value) (bs : List UInt8) (i : Nat) (n : Int) (w : World) (h : Eye 82 5 w B v bs i) (hl : bs.length ≤ 140737488351232) (h1 : 1 ≤ n) (h8 : n ≤ 8) (hn : ((bs.length : Int) - i) < n) :
    Calls Try.prog 44 #[.pointer (some ⟨B, 0, none⟩), .int .i64 n] w fun e w' => e = .returned (.tuple #[.int .u64 0, .int .i64 20]) ∧ ∃ k, w' = w.drewN k := by
  have h0 := h.le
  go_enter Try.func44, Try.ntmps44
  go_wp2_with fail
  ((with_reducible refine (left_any B v bs i _ h hl).mono ?_); rintro e w1 ⟨rfl, k, rfl⟩)
  go_wp2
  go_ret2
  exact ⟨rfl, k, rfl⟩

set_option maxRecDepth 100000 in
set_option maxHeartbeats 1600000 in
theorem eye_uint_some (B g cap : Nat) (bs : List UInt8) (i n : Nat) (w : World) (h : Eye 82 5 w B (.slice (some ⟨g, 0, none⟩) bs.length cap) bs i) (hl : bs.length ≤ 140737488351232) (hn : i + n ≤ bs.length) (hcap : bs.length ≤ cap) (hn1 : 1 ≤ n) (hn8 : n ≤ 8) :
    Calls Try.prog 44 #[.pointer (some ⟨B, 0, none⟩), .int .i64 n] w fun e w' => e = .returned (.tuple #[.int .u64 (beVal ((bs.drop i).take n) : Nat), .int .i64 0]) ∧
      Eye 82 5 w' B (.slice (some ⟨g, 0, none⟩) bs.length cap) bs (i + n) ∧ Keeps (fun k => k = B) w w' := by
  obtain ⟨c0, c1, f0, f1⟩ := cell_of_two h.obj
  have h1 : ¬ (n : Int) < 1 := by omega
  have h8 : ¬ (8 : Int) < (n : Int) := by omega
  have h2 : (n : Int) ≤ (bs.length : Int) - (i : Int) := by omega
  have s1 : (0 : Int) ≤ (i : Int) := by omega
  have s2 : (i : Int) ≤ (i : Int) + (n : Int) := by omega
  have s3 : (i : Int) + (n : Int) ≤ (cap : Int) := by omega
  have s4 : (i : Int) + (n : Int) ≤ 140737488351232 := by omega
  have s5 : IntKind.i64.wrap ((i : Int) + (n : Int)) = (i : Int) + (n : Int) := IntWalk.i64_in _ (by omega)
  have s6 : ((i : Int) + (n : Int)).toNat = i + n := by omega
  have s7 : (0 : Int) ≤ (i : Int) + (n : Int) := by omega
  have s8 : ¬ cap = i := by omega
  have H := Lib.hid h
  have hB := h.lt
  have hpart := h.part hn (cap - i)
  have hcell : ∀ j, j < n → w.cell? ⟨g, i + j, none⟩ = some (.int .u8 (((bs.drop i).take n).getD j 0).toNat) := by
    intro j hj
    rcases hpart with ⟨a, c, e1, e2⟩ | ⟨c, e1, _⟩
    · simp only [Value.slice.injEq, Option.some.injEq] at e1
      obtain ⟨rfl, _, _⟩ := e1
      have := e2 j _ (u8s_get _ j (by simp; omega))
      rw [add_at] at this
      exact this
    · simp at e1
  have HC := Lib.hid hcell
  have hlen : ((bs.drop i).take n).length = n := by simp; omega
  generalize hpp : (bs.drop i).take n = part at *
  have HL := Lib.hid hlen
  have HPP := Lib.hid hpp
  clear h hpart hcell hlen hpp
  go_enter Try.func44, Try.ntmps44
  go_wp2_with fail
  ((with_reducible refine (left_any B _ bs i _ H.out hl).mono ?_); rintro e w1 ⟨rfl, k, rfl⟩)
  go_wp2_with fail
  go_region_held3 (fun w' => w'.cell? ⟨B, 0, none⟩ = some (.slice (some ⟨g, 0, none⟩) bs.length cap) ∧ w'.cell? ⟨B, 1, none⟩ = some (.int .i64 i))
    (go_keep) (fail)
  go_wp2
  go_loop [6, 35] (fun t u => ∃ j : Nat, j ≤ n ∧ u = .int .i64 j ∧ t = .int .u64 (beVal (part.take j) : Nat)) (fun _ u => n - (intOf u).toNat)
  case atStart => exact ⟨0, by omega, rfl, by simp [beVal]⟩
  case round =>
    obtain ⟨j, hj, rfl, rfl⟩ := hrel
    by_cases hlt : j < n
    · have hc := HC.out j hlt
      go_wp2
      go_round
      case rel =>
        have hlt' : j < part.length := by rw [HL.out]; exact hlt
        have e : (bits BinOp.or IntKind.u64 (IntKind.u64.wrap ((beVal (part.take j) : Nat) * 256)) (IntKind.u64.wrap ((part[j]?.getD 0).toNat : Int))) = (beVal (part.take (j + 1)) : Nat) := by
          rw [or_byte _ _ (beVal_small part j (by omega)) (UInt8.toNat_lt _), take_snoc part j hlt', beVal_snoc]
        rw [e]
        (repeat apply Exists.intro)
        refine ⟨⟨j + 1, by omega, ?_, rfl⟩, rfl, rfl, rfl⟩
        go_num
      case measure => simp [intOf]; omega
    · have hjn : j = n := by omega
      have hb2 : part.take j = part := by rw [hjn]; exact List.take_of_length_le (by rw [HL.out]; exact Nat.le_refl _)
      rw [hb2]
      have HJ := Lib.hid hjn
      clear hjn hb2
      go_wp2
      go_ret2
      have hkk : Same w ((w.drewN k).drew) := ((Keeps.refl _ _).drewN k).drew
      refine ⟨rfl, ?_, (hkk.any).setCell _ _ (.inr rfl)⟩
      have := (H.out.keeps hkk (fun e => e) (fun _ _ e => e)).set (j := i + n) hn
      simpa using this

/-- Uint of what is there. -/
theorem eye_uint_ok (B : Nat) (v : Value) (bs : List UInt8) (i n : Nat) (N : Int) (w : World) (h : Eye 82 5 w B v bs i) (hl : bs.length ≤ 140737488351232) (hn : i + n ≤ bs.length) (hn1 : 1 ≤ n) (hn8 : n ≤ 8) (hN : N = (n : Int)) :
    Calls Try.prog 44 #[.pointer (some ⟨B, 0, none⟩), .int .i64 N] w fun e w' => e = .returned (.tuple #[.int .u64 (beVal ((bs.drop i).take n) : Nat), .int .i64 0]) ∧
      Eye 82 5 w' B v bs (i + n) ∧ Keeps (fun k => k = B) w w' := by
  subst hN
  rcases h.form with ⟨rfl, rfl⟩ | ⟨g, cap, rfl, hc⟩
  · simp at hn; omega
  · exact eye_uint_some B g cap bs i n w h hl hn hc hn1 hn8

end Go.Proofs.Ytickphkeeflbbaa
