/- Digests compared; sha.Sum; the examples. -/
import Derived.Test.YtlglkkoippoafaaBase
import Derived.Test.YtlglkkoippoafaaWhole0
import Derived.StillTailTactics
import Derived.Laws.CopyRow
import Derived.Laws.IdiomCopy
import Derived.Lib.SlBuf
import Derived.Laws.Tables
import Derived.Laws.Rows
import Derived.Laws.StructEq
namespace Go.Proofs.Ytlglkkoippoafaa
open Go.RowKit
set_option linter.unusedVariables false

abbrev Wd := BitVec 32
/-- A word as a number of the model. -/
def wn (x : Wd) : Int := (x.toNat : Int)
theorem wn_bound (x : Wd) : 0 ≤ wn x ∧ wn x < 4294967296 := by
  have := x.isLt
  unfold wn; omega
theorem wn_mk (n : Nat) (h : n < 4294967296) : wn (BitVec.ofNat 32 n) = (n : Int) := by
  unfold wn
  rw [BitVec.toNat_ofNat, Nat.mod_eq_of_lt (by omega)]
theorem ofInt_wn (x : Wd) : BitVec.ofInt 32 (wn x) = x := by
  apply BitVec.eq_of_toNat_eq
  rw [BitVec.toNat_ofInt]
  have := x.isLt
  unfold wn; omega
theorem wrap_wd (x : Wd) : IntKind.u32.wrap (x.toNat : Int) = wn x := by
  have h1 := x.isLt
  have h2 : IntKind.u32.wrap (x.toNat : Int) = (x.toNat : Int) % 4294967296 := rfl
  rw [h2]; unfold wn; omega
theorem w_xor (x y : Wd) : bits BinOp.xor IntKind.u32 (wn x) (wn y) = wn (x ^^^ y) := by
  have h : bits BinOp.xor IntKind.u32 (wn x) (wn y) = IntKind.u32.wrap ((BitVec.ofInt 32 (wn x) ^^^ BitVec.ofInt 32 (wn y)).toNat : Int) := rfl
  rw [h, ofInt_wn, ofInt_wn, wrap_wd]
theorem w_and (x y : Wd) : bits BinOp.and IntKind.u32 (wn x) (wn y) = wn (x &&& y) := by
  have h : bits BinOp.and IntKind.u32 (wn x) (wn y) = IntKind.u32.wrap ((BitVec.ofInt 32 (wn x) &&& BitVec.ofInt 32 (wn y)).toNat : Int) := rfl
  rw [h, ofInt_wn, ofInt_wn, wrap_wd]
theorem w_or (x y : Wd) : bits BinOp.or IntKind.u32 (wn x) (wn y) = wn (x ||| y) := by
  have h : bits BinOp.or IntKind.u32 (wn x) (wn y) = IntKind.u32.wrap ((BitVec.ofInt 32 (wn x) ||| BitVec.ofInt 32 (wn y)).toNat : Int) := rfl
  rw [h, ofInt_wn, ofInt_wn, wrap_wd]
theorem w_add (x y : Wd) : (wn x + wn y) % 4294967296 = wn (x + y) := by
  unfold wn
  rw [BitVec.toNat_add]
  omega
theorem w_wrap_add (x y : Wd) : IntKind.u32.wrap (wn x + wn y) = wn (x + y) := w_add x y
theorem w_shr (x : Wd) (k : Nat) : wn x / ((2 ^ k : Nat) : Int) = wn (x >>> k) := by
  unfold wn
  rw [BitVec.toNat_ushiftRight, Nat.shiftRight_eq_div_pow]
  norm_cast
theorem w_shl (x : Wd) (k : Nat) : wn x * ((2 ^ k : Nat) : Int) % 4294967296 = wn (x <<< k) := by
  unfold wn
  rw [BitVec.toNat_shiftLeft, Nat.shiftLeft_eq]
  show _ = ((x.toNat * 2 ^ k % 4294967296 : Nat) : Int)
  rw [Int.natCast_emod, Int.natCast_mul]
  rfl
def rr (x : Wd) (r : Nat) : Wd := (x <<< (32 - r)) ||| (x >>> r)

end Go.Proofs.Ytlglkkoippoafaa
namespace Go.Proofs.Ytlglkkoippoafaa
open Go.RowKit
set_option linter.unusedVariables false

/-- Words as cells. -/
def u32s (l : List Wd) : List Value := l.map fun x => .int .u32 (wn x)
theorem u32s_length (l : List Wd) : (u32s l).length = l.length := by simp [u32s]
theorem u32s_get (l : List Wd) (i : Nat) (h : i < l.length) : (u32s l)[i]? = some (.int .u32 (wn l[i])) := by simp [u32s, h]
theorem u32s_set (l : List Wd) (i : Nat) (x : Wd) : u32s (l.set i x) = (u32s l).set i (.int .u32 (wn x)) := by simp [u32s, List.map_set]

theorem wrap_wn (x : Wd) : IntKind.u32.wrap (wn x) = wn x := wrap_wd x
theorem w_shl24 (x : Wd) : IntKind.u32.wrap (wn x * 16777216) = wn (x <<< 24) := w_shl x 24
theorem w_shl16 (x : Wd) : IntKind.u32.wrap (wn x * 65536) = wn (x <<< 16) := w_shl x 16
theorem w_shl8 (x : Wd) : IntKind.u32.wrap (wn x * 256) = wn (x <<< 8) := w_shl x 8
theorem w_shr3 (x : Wd) : wn x / (8 : Int) = wn (x >>> 3) := w_shr x 3
theorem w_shr10 (x : Wd) : wn x / (1024 : Int) = wn (x >>> 10) := w_shr x 10

theorem w_add3 (x y z : Wd) : (wn x + wn y + wn z) % 4294967296 = wn (x + y + z) := by
  rw [← w_add (x + y) z, ← w_add x y]; omega
theorem w_add4 (x y z u : Wd) : (wn x + wn y + wn z + wn u) % 4294967296 = wn (x + y + z + u) := by
  rw [← w_add (x + y + z) u, ← w_add3 x y z]; omega
theorem w_add5 (x y z u v : Wd) : (wn x + wn y + wn z + wn u + wn v) % 4294967296 = wn (x + y + z + u + v) := by
  rw [← w_add (x + y + z + u) v, ← w_add4 x y z u]; omega

theorem w_not (x : Wd) : bits BinOp.xor IntKind.u32 4294967295 (wn x) = wn (~~~ x) := by
  have h : (4294967295 : Int) = wn (BitVec.allOnes 32) := by decide +kernel
  rw [h, w_xor, BitVec.allOnes_xor]

theorem w_notI (x : Wd) : bits BinOp.xor IntKind.u32 (if IntKind.u32.signed = true then -1 else IntKind.u32.max) (wn x) = wn (~~~ x) := w_not x

/-- A byte as a word. -/
def ext (b : UInt8) : Wd := BitVec.ofNat 32 b.toNat
theorem ext_wn (b : UInt8) : (b.toNat : Int) = wn (ext b) := by
  have := b.toNat_lt
  unfold ext; rw [wn_mk _ (by omega)]
theorem ext_small (b : UInt8) : wn (ext b) < 256 := by
  have := b.toNat_lt
  rw [← ext_wn]; omega
/-- Four bytes as a word. -/
def word4 (b0 b1 b2 b3 : UInt8) : Wd := ((ext b0 <<< 24 ||| ext b1 <<< 16) ||| ext b2 <<< 8) ||| ext b3
/-- The sixteen words of a chunk. -/
def words16 (ch : List UInt8) : List Wd := (List.range 16).map fun i => word4 (ch.getD (4 * i) 0) (ch.getD (4 * i + 1) 0) (ch.getD (4 * i + 2) 0) (ch.getD (4 * i + 3) 0)
theorem words16_length (ch : List UInt8) : (words16 ch).length = 16 := by simp [words16]
theorem words16_get (ch : List UInt8) (i : Nat) (h : i < 16) : (words16 ch)[i]'(by rw [words16_length]; exact h) = word4 (ch.getD (4 * i) 0) (ch.getD (4 * i + 1) 0) (ch.getD (4 * i + 2) 0) (ch.getD (4 * i + 3) 0) := by simp [words16]
/-- A list's beginning, noughts behind. -/
def upTo (l : List Wd) (i n : Nat) : List Wd := l.take i ++ List.replicate (n - i) 0
theorem upTo_length (l : List Wd) (i n : Nat) (h : i ≤ l.length) (hn : i ≤ n) : (upTo l i n).length = n := by
  unfold upTo; rw [List.length_append, List.length_take, List.length_replicate]; omega
theorem upTo_succ (l : List Wd) (i n : Nat) (h : i < l.length) (hn : i < n) : (upTo l i n).set i l[i] = upTo l (i + 1) n := by
  unfold upTo
  have hl : (l.take i).length = i := by rw [List.length_take]; omega
  rw [List.set_append_right _ _ (by omega), hl, Nat.sub_self, List.take_succ_eq_append_getElem h, List.append_assoc]
  obtain ⟨m, hm⟩ : ∃ m, n - i = m + 1 := ⟨n - i - 1, by omega⟩
  rw [hm, show n - (i + 1) = m from by omega, List.replicate_succ, List.set_cons_zero]
  rfl
theorem upTo_get (l : List Wd) (i n j : Nat) (h : i ≤ l.length) (hn : i ≤ n) (hj : j < i) : (upTo l i n)[j]? = some (l[j]'(by omega)) := by
  unfold upTo
  rw [List.getElem?_append_left (by rw [List.length_take]; omega), List.getElem?_take_of_lt hj, List.getElem?_eq_getElem]

def sig0 (x : Wd) : Wd := (rr x 7 ^^^ rr x 18) ^^^ x >>> 3
def sig1 (x : Wd) : Wd := (rr x 17 ^^^ rr x 19) ^^^ x >>> 10
/-- The word behind some. -/
def nextW (l : List Wd) : Wd := ((l.getD (l.length - 16) 0 + l.getD (l.length - 7) 0) + sig0 (l.getD (l.length - 15) 0)) + sig1 (l.getD (l.length - 2) 0)
def sched (ch : List UInt8) : Nat → List Wd
  | 0 => words16 ch
  | k + 1 => sched ch k ++ [nextW (sched ch k)]
theorem sched_length (ch : List UInt8) : ∀ k, (sched ch k).length = 16 + k
  | 0 => words16_length ch
  | k + 1 => by simp [sched, sched_length ch k]; omega
/-- Words, noughts behind, as many as are given. -/
def fill (l : List Wd) (n : Nat) : List Wd := l ++ List.replicate (n - l.length) 0
theorem fill_length (l : List Wd) (n : Nat) (h : l.length ≤ n) : (fill l n).length = n := by unfold fill; rw [List.length_append, List.length_replicate]; omega
theorem fill_snoc (l : List Wd) (n : Nat) (h : l.length < n) (x : Wd) : (fill l n).set l.length x = fill (l ++ [x]) n := by
  unfold fill
  rw [List.set_append_right _ _ (Nat.le_refl _), Nat.sub_self]
  obtain ⟨m, hm⟩ : ∃ m, n - l.length = m + 1 := ⟨n - l.length - 1, by omega⟩
  rw [hm, List.replicate_succ, List.set_cons_zero, List.length_append, List.length_singleton, show n - (l.length + 1) = m from by omega, List.append_assoc]
  rfl
theorem fill_get (l : List Wd) (n j : Nat) (h : j < l.length) : (fill l n)[j]? = some (l.getD j 0) := by
  unfold fill
  rw [List.getElem?_append_left h, List.getElem?_eq_getElem h]
  simp [List.getD, h]

/-- The round numbers. -/
def roundKs : List Wd := [1116352408, 1899447441, 3049323471, 3921009573, 961987163, 1508970993, 2453635748, 2870763221, 3624381080, 310598401, 607225278, 1426881987, 1925078388, 2162078206, 2614888103, 3248222580, 3835390401, 4022224774, 264347078, 604807628, 770255983, 1249150122, 1555081692, 1996064986, 2554220882, 2821834349, 2952996808, 3210313671, 3336571891, 3584528711, 113926993, 338241895, 666307205, 773529912, 1294757372, 1396182291, 1695183700, 1986661051, 2177026350, 2456956037, 2730485921, 2820302411, 3259730800, 3345764771, 3516065817, 3600352804, 4094571909, 275423344, 430227734, 506948616, 659060556, 883997877, 958139571, 1322822218, 1537002063, 1747873779, 1955562222, 2024104815, 2227730452, 2361852424, 2428436474, 2756734187, 3204031479, 3329325298]
theorem roundKs_length : roundKs.length = 64 := rfl

/-- The eight words. -/
structure St where
  a : Wd
  b : Wd
  c : Wd
  d : Wd
  e : Wd
  f : Wd
  g : Wd
  h : Wd
def chW (e f g : Wd) : Wd := (e &&& f) ^^^ (~~~ e &&& g)
def majW (a b c : Wd) : Wd := ((a &&& b) ^^^ (a &&& c)) ^^^ (b &&& c)
def bs1 (e : Wd) : Wd := (rr e 6 ^^^ rr e 11) ^^^ rr e 25
def bs0 (a : Wd) : Wd := (rr a 2 ^^^ rr a 13) ^^^ rr a 22
def pW (s : St) (k x : Wd) : Wd := (((s.h + k) + x) + chW s.e s.f s.g) + bs1 s.e
def qW (s : St) : Wd := majW s.a s.b s.c + bs0 s.a
def step (s : St) (k x : Wd) : St := ⟨pW s k x + qW s, s.a, s.b, s.c, s.d + pW s k x, s.e, s.f, s.g⟩
def rounds (s : St) (l : List Wd) : Nat → St
  | 0 => s
  | t + 1 => step (rounds s l t) (roundKs.getD t 0) (l.getD t 0)
def St.list (s : St) : List Wd := [s.a, s.b, s.c, s.d, s.e, s.f, s.g, s.h]
def St.add (s t : St) : St := ⟨s.a + t.a, s.b + t.b, s.c + t.c, s.d + t.d, s.e + t.e, s.f + t.f, s.g + t.g, s.h + t.h⟩
/-- A chunk, mixed into the eight words. -/
def mixed (s : St) (ch : List UInt8) : St := s.add (rounds s (sched ch 48) 64)

/-- The cells of a hasher. -/
def hcells (s : St) (ch : List UInt8) (n : Nat) : List Value := u32s s.list ++ u8s ch ++ [.int .u64 (n : Int)]
theorem hcells_word (s : St) (ch : List UInt8) (n i : Nat) (h : i < 8) : (hcells s ch n)[i]? = some (.int .u32 (wn (s.list.getD i 0))) := by
  unfold hcells
  rw [List.append_assoc, List.getElem?_append_left (by rw [u32s_length]; exact h), u32s_get _ _ h]
  simp [List.getD, show i < s.list.length from h]
  rfl
theorem hcells_byte (s : St) (ch : List UInt8) (n i : Nat) (hl : ch.length = 64) (h : i < 64) : (hcells s ch n)[8 + i]? = some (.int .u8 ((ch.getD i 0).toNat : Int)) := by
  unfold hcells
  have h8 : (u32s s.list).length = 8 := rfl
  rw [List.append_assoc, List.getElem?_append_right (by omega), h8, Nat.add_sub_cancel_left, List.getElem?_append_left (by rw [u8s_length]; omega), u8s_get _ _ (by omega)]
theorem hcells_count (s : St) (ch : List UInt8) (n : Nat) (hl : ch.length = 64) : (hcells s ch n)[72]? = some (.int .u64 (n : Int)) := by
  unfold hcells
  have h8 : (u32s s.list).length = 8 := rfl
  rw [List.getElem?_append_right (by rw [List.length_append, u8s_length, h8, hl]; omega), List.length_append, u8s_length, h8, hl]
  rfl
theorem hcells_length (s : St) (ch : List UInt8) (n : Nat) (hl : ch.length = 64) : (hcells s ch n).length = 73 := by
  unfold hcells
  rw [List.length_append, List.length_append, u8s_length, hl]
  rfl

theorem hcells_def (s : St) (ch : List UInt8) (n : Nat) : hcells s ch n = u32s s.list ++ (u8s ch ++ [.int .u64 (n : Int)]) := by unfold hcells; rw [List.append_assoc]
/-- The words while they are added to, one by one. -/
def addUp (s r : St) (i : Nat) : List Wd := (s.add r).list.take i ++ s.list.drop i
theorem addUp_length (s r : St) (i : Nat) (h : i ≤ 8) : (addUp s r i).length = 8 := by
  unfold addUp
  have h1 : (s.add r).list.length = 8 := rfl
  have h2 : s.list.length = 8 := rfl
  rw [List.length_append, List.length_take, List.length_drop, h1, h2]; omega
theorem addUp_zero (s r : St) : addUp s r 0 = s.list := rfl
theorem addUp_all (s r : St) : addUp s r 8 = (s.add r).list := rfl
theorem addUp_get (s r : St) (i : Nat) (h : i < 8) : (addUp s r i)[i]? = some (s.list.getD i 0) := by
  rcases (by omega : i = 0 ∨ i = 1 ∨ i = 2 ∨ i = 3 ∨ i = 4 ∨ i = 5 ∨ i = 6 ∨ i = 7) with rfl | rfl | rfl | rfl | rfl | rfl | rfl | rfl <;> rfl
theorem addUp_set (s r : St) (i : Nat) (h : i < 8) : (addUp s r i).set i (s.list.getD i 0 + r.list.getD i 0) = addUp s r (i + 1) := by
  rcases (by omega : i = 0 ∨ i = 1 ∨ i = 2 ∨ i = 3 ∨ i = 4 ∨ i = 5 ∨ i = 6 ∨ i = 7) with rfl | rfl | rfl | rfl | rfl | rfl | rfl | rfl <;> rfl
theorem words_set (l : List Wd) (rest : List Value) (i : Nat) (h : i < l.length) (x : Wd) : (u32s l ++ rest).set i (.int .u32 (wn x)) = u32s (l.set i x) ++ rest := by
  rw [List.set_append_left _ _ (by rw [u32s_length]; exact h), u32s_set]
theorem words_get (l : List Wd) (rest : List Value) (i : Nat) (x : Wd) (h : l[i]? = some x) : (u32s l ++ rest)[i]? = some (.int .u32 (wn x)) := by
  have hl := (List.getElem?_eq_some_iff.1 h).1
  rw [List.getElem?_append_left (by rw [u32s_length]; exact hl), u32s, List.getElem?_map, h]; rfl

end Go.Proofs.Ytlglkkoippoafaa
namespace Go.Proofs.Ytlglkkoippoafaa
open Go.RowKit
set_option linter.unusedVariables false

end Go.Proofs.Ytlglkkoippoafaa
namespace Go.Proofs.Ytlglkkoippoafaa
open Go.RowKit
set_option linter.unusedVariables false

/-- What a hasher holds. -/
structure HS where
  s : St
  ch : List UInt8
  n : Nat
def HS.cells (h : HS) : List Value := hcells h.s h.ch h.n
def feed1 (h : HS) (b : UInt8) : HS := ⟨if h.n % 64 = 63 then mixed h.s (h.ch.set (h.n % 64) b) else h.s, h.ch.set (h.n % 64) b, h.n + 1⟩
def feed (h : HS) (bs : List UInt8) : HS := bs.foldl feed1 h
def st0 : St := ⟨1779033703, 3144134277, 1013904242, 2773480762, 1359893119, 2600822924, 528734635, 1541459225⟩
def hs0 : HS := ⟨st0, List.replicate 64 0, 0⟩
theorem feed_append (h : HS) (a b : List UInt8) : feed h (a ++ b) = feed (feed h a) b := by simp [feed]
theorem feed_len (h : HS) (bs : List UInt8) : (feed h bs).ch.length = h.ch.length ∧ (feed h bs).n = h.n + bs.length := by
  induction bs generalizing h with
  | nil => exact ⟨rfl, rfl⟩
  | cons b r ih =>
    have := ih (feed1 h b)
    have e1 : (feed1 h b).ch.length = h.ch.length := by simp [feed1]
    have e2 : (feed1 h b).n = h.n + 1 := rfl
    refine ⟨this.1.trans e1, ?_⟩
    show (feed (feed1 h b) r).n = _
    rw [this.2, e2, List.length_cons]; omega
theorem splice_cons (ch : List UInt8) (at' : Nat) (b : UInt8) (r : List UInt8) (h : at' < ch.length) : (ch.set at' b).take (at' + 1) ++ r ++ (ch.set at' b).drop (at' + 1 + r.length) = ch.take at' ++ (b :: r) ++ ch.drop (at' + (r.length + 1)) := by
  have h1 : (ch.set at' b).take (at' + 1) = ch.take at' ++ [b] := by
    rw [List.take_succ_eq_append_getElem (by simpa using h), List.take_set, List.set_eq_of_length_le (by rw [List.length_take]; omega)]
    simp
  have h2 : (ch.set at' b).drop (at' + 1 + r.length) = ch.drop (at' + (r.length + 1)) := by
    rw [List.drop_set_of_lt (by omega)]
    congr 1; omega
  rw [h1, h2]; simp
theorem feed_run (xs : List UInt8) : ∀ (h : HS), h.ch.length = 64 → xs ≠ [] → h.n % 64 + xs.length ≤ 64 →
    feed h xs = ⟨if h.n % 64 + xs.length = 64 then mixed h.s (h.ch.take (h.n % 64) ++ xs ++ h.ch.drop (h.n % 64 + xs.length)) else h.s, h.ch.take (h.n % 64) ++ xs ++ h.ch.drop (h.n % 64 + xs.length), h.n + xs.length⟩ := by
  induction xs with
  | nil => intro h _ h0; exact absurd rfl h0
  | cons b r ih =>
    intro h hl _ hle
    simp only [List.length_cons] at hle
    have hlt : h.n % 64 < h.ch.length := by omega
    by_cases hr : r = []
    · subst hr
      have e : h.ch.set (h.n % 64) b = h.ch.take (h.n % 64) ++ [b] ++ h.ch.drop (h.n % 64 + 1) := by
        have := splice_cons h.ch (h.n % 64) b [] hlt
        simp only [List.append_nil, List.length_nil, Nat.add_zero, Nat.zero_add] at this
        rw [← this, List.take_append_drop]
      show feed1 h b = _
      unfold feed1
      simp only [List.length_cons, List.length_nil, Nat.zero_add]
      rw [e]
      congr 1
      have : (h.n % 64 = 63) = (h.n % 64 + 1 = 64) := by rw [eq_iff_iff]; omega
      simp only [this]
    · have hr0 : 0 < r.length := List.length_pos_iff.2 hr
      have hne : ¬ h.n % 64 = 63 := by omega
      have hmod : (h.n + 1) % 64 = h.n % 64 + 1 := by omega
      have h1 : feed1 h b = ⟨h.s, h.ch.set (h.n % 64) b, h.n + 1⟩ := by unfold feed1; rw [if_neg hne]
      have := ih ⟨h.s, h.ch.set (h.n % 64) b, h.n + 1⟩ (by simpa using hl) hr (by simp only; omega)
      simp only [hmod] at this
      show feed (feed1 h b) r = _
      rw [h1, this, splice_cons _ _ _ _ hlt]
      simp only [List.length_cons]
      rw [show h.n % 64 + 1 + r.length = h.n % 64 + (r.length + 1) from by omega, show h.n + 1 + r.length = h.n + (r.length + 1) from by omega]

theorem hcells_splice (s : St) (ch xs : List UInt8) (n i : Nat) (hl : ch.length = 64) (h : i + xs.length ≤ 64) : (hcells s ch n).take (8 + i) ++ u8s xs ++ (hcells s ch n).drop (8 + i + xs.length) = hcells s (ch.take i ++ xs ++ ch.drop (i + xs.length)) n := by
  have h8 : (u32s s.list).length = 8 := rfl
  rw [hcells_def, hcells_def, List.take_append, List.drop_append, h8]
  rw [List.take_of_length_le (by omega), List.drop_of_length_le (by omega), Nat.add_sub_cancel_left, show 8 + i + xs.length - 8 = i + xs.length from by omega, List.nil_append]
  rw [List.take_append, List.drop_append, u8s_length, hl, show i - 64 = 0 from by omega, show i + xs.length - 64 = 0 from by omega, List.take_zero, List.append_nil, List.drop_zero]
  simp only [u8s, List.map_append, List.map_take, List.map_drop, List.append_assoc]
theorem hcells_setcount (s : St) (ch : List UInt8) (n m : Nat) (hl : ch.length = 64) : (hcells s ch n).set 72 (.int .u64 (m : Int)) = hcells s ch m := by
  have h8 : (u32s s.list).length = 8 := rfl
  unfold hcells
  rw [List.set_append_right _ _ (by rw [List.length_append, u8s_length, h8, hl]; omega), List.length_append, u8s_length, h8, hl]
  rfl

theorem keeps_setRow (w : World) (B : Nat) (ds : Array Value) : Keeps (fun k => k = B) w (w.setRow B ds) := ⟨rfl, rfl, rfl, by simp, fun k _ hn => setRow_other w B k ds hn⟩

/-- A copy of bytes into a block that is known whole. -/
theorem run_copy_whole {P : Program} (w : World) (dT sT ty elem : TypeId) (B o dLen dCap : Nat) (x : Value) (bs : List UInt8) (cs : List Value) (t : TypeId) (hu : P.underlying dT = some (.slice elem)) (hs : (P.info? elem).map (·.size) = some 1)
    (hw : Whole w B t cs) (hx : Bytes w x bs) (hfit : o + dLen ≤ cs.length) :
    ∃ w', (Builtin.copy_ #[dT, sT] ty #[.slice (some ⟨B, o, none⟩) dLen dCap, x]).run P w = .ok (.int .i64 ((min bs.length dLen : Nat) : Int)) w' ∧ Whole w' B t (cs.take o ++ u8s (bs.take (min bs.length dLen)) ++ cs.drop (o + min bs.length dLen)) ∧ Keeps (fun k => k = B) w w' := by
  obtain ⟨ao, c, rfl⟩ := hx.form
  have hlen : (u8s (bs.take (min bs.length dLen))).length = min bs.length dLen := by rw [u8s_length, List.length_take]; omega
  by_cases h0 : min bs.length dLen = 0
  · have hr := run_copy_none (P := P) w dT sT ty elem (some ⟨B, o, none⟩) ao dLen dCap bs.length c hu hs h0
    refine ⟨w, by rw [hr, h0]; rfl, ?_, Keeps.refl _ _⟩
    rw [h0]; simp [u8s]; exact hw
  · have ha : ∃ a, ao = some a := by
      rcases hx with ⟨a, c', e, _⟩ | ⟨c', e, e2⟩
      · simp only [Value.slice.injEq] at e; exact ⟨a, e.1⟩
      · subst e2; simp at h0
    obtain ⟨a, rfl⟩ := ha
    have hsrc : ∀ j v, (u8s (bs.take (min bs.length dLen)))[j]? = some v → w.cell? (a.add j) = some v := by
      intro j v hv
      rcases hx with ⟨a', c', e, hc⟩ | ⟨c', e, _⟩
      · simp only [Value.slice.injEq, Option.some.injEq] at e
        obtain ⟨rfl, _, _⟩ := e
        refine hc j v ?_
        have hj : j < min bs.length dLen := by
          have := (List.getElem?_eq_some_iff.1 hv).1
          rw [hlen] at this; exact this
        have e3 : u8s (bs.take (min bs.length dLen)) = (u8s bs).take (min bs.length dLen) := by simp [u8s, List.map_take]
        rw [e3, List.getElem?_take_of_lt hj] at hv
        exact hv
      · simp at e
    have hr := run_copy_row (P := P) w dT sT ty elem B o dLen dCap a bs.length c cs.toArray t (u8s (bs.take (min bs.length dLen))) hu hs hw (by rw [hlen]) hsrc (by rw [hlen, List.size_toArray]; omega) (u8s_cell _)
    rw [hlen] at hr
    exact ⟨_, hr, hw.row, keeps_setRow _ _ _⟩

theorem wpList_clear_run {P : Program} {ops : Array Oper} {rest : List Oper} {o : Oper} {a : Act} {w : World} {Q : Exit → Act → World → Prop} (hgd : o.guard = none) (x : Operand) (t : TypeId)
    (ho : o.op = .call { callee := .builtin .clear, args := #[x], argTypes := #[t] }) (v r : Value) (w' : World) (hx : a.eval x = v)
    (hr : (Builtin.clear_ #[t] o.type #[v]).run P w = .ok r w') (hK : wpList P ops Q rest (a.put o.dst r) w') : wpList P ops Q (o :: rest) a w :=
  wpList_plain hgd fun K hK' => by
    unfold Oper.wp execOp
    simp only [ho, resolve, invoke, builtin, Sem.run_bind, Sem.run_pure, Result.andThen_ok, List.map_toArray, List.map_cons, List.map_nil, hx, hr]
    exact hK' _ _ hK
theorem run_clear_whole {P : Program} (w : World) (t ty elem : TypeId) (i : TypeInfo) (B o n c : Nat) (cs : List Value) (t' : TypeId) (hu : P.underlying t = some (.slice elem)) (hi : P.info? elem = some i) (hz : i.zero = some (.int .u8 0))
    (hw : Whole w B t' cs) (hfit : n ≠ 0 → o + n ≤ cs.length) :
    ∃ w', (Builtin.clear_ #[t] ty #[.slice (some ⟨B, o, none⟩) n c]).run P w = .ok (.tuple #[]) w' ∧ (n ≠ 0 → Whole w' B t' (cs.take o ++ u8s (List.replicate n 0) ++ cs.drop (o + n))) ∧ (n = 0 → w' = w) ∧ Keeps (fun k => k = B) w w' := by
  by_cases h0 : n = 0
  · subst h0
    exact ⟨w, by simp [Builtin.clear_, run_underlying hu], fun h => absurd rfl h, fun _ => rfl, Keeps.refl _ _⟩
  · have hz2 : (Builtin.zeroCells (Value.int .u8 0).cells n).toList = u8s (List.replicate n 0) := by
      apply List.ext_getElem
      · simp [Builtin.zeroCells, u8s, Value.cells]
      · intro i h1 h2
        simp [Builtin.zeroCells, u8s, Value.cells, Nat.mod_one]
    have hst := run_storeCells_at P B o t' (u8s (List.replicate n 0)) 0 cs.toArray w hw (by rw [u8s_length, List.length_replicate]; simp; exact hfit h0) (u8s_cell _)
    refine ⟨_, ?_, fun _ => hw.row (ds := cs.take o ++ u8s (List.replicate n 0) ++ cs.drop (o + n)), fun h => absurd h h0, keeps_setRow _ _ _⟩
    obtain ⟨m, rfl⟩ : ∃ m, n = m + 1 := ⟨n - 1, by omega⟩
    simp only [Nat.add_zero, u8s_length, List.length_replicate] at hst
    simp [Builtin.clear_, run_underlying hu, zeroValue, typeInfo, hi, hz, hz2, hst]

end Go.Proofs.Ytlglkkoippoafaa
namespace Go.Proofs.Ytlglkkoippoafaa
open Go.RowKit
set_option linter.unusedVariables false

/-- The round numbers lie in block 0. -/
def Nums (w : World) : Prop := ∀ t, t < 64 → w.cell? ⟨0, t, none⟩ = some (.int .u32 (wn (roundKs.getD t 0)))
theorem Nums.keep {S : Nat → Prop} {w w' : World} (h : Nums w) (k : Keeps S w w') (h0 : ¬ S 0) : Nums w' := fun t ht =>
  (World.cell?_of_block (w := w) (a := ⟨0, t, none⟩) (k.block 0 (World.block_lt_of_cell? w _ (h t ht)) h0)).trans (h t ht)
theorem Bytes.cutAt {w : World} {ao : Option Addr} {n c : Nat} {bs : List UInt8} (h : Bytes w (.slice ao n c) bs) (hn : bs.length = n) (k : Nat) (hk : k ≤ n) (hc : n ≤ c) (m d : Nat) (hm : m = n - k) :
    Bytes w (.slice (if c = k then ao else Option.map (fun x => x.add k) ao) m d) (bs.drop k) := by
  subst hm
  have hl : (bs.drop k).length = n - k := by rw [List.length_drop, hn]
  by_cases e : c = k
  · have h0 : bs.drop k = [] := List.length_eq_zero_iff.1 (by omega)
    rw [h0, show n - k = 0 from by omega]
    exact Bytes.nil _ _ _
  · rw [if_neg e]
    rcases h with ⟨a, c', h1, hcell⟩ | ⟨c', h1, h2⟩
    · simp only [Value.slice.injEq] at h1
      obtain ⟨rfl, _, _⟩ := h1
      refine .inl ⟨_, d, by rw [hl]; rfl, fun j u hu => ?_⟩
      have e1 : (a.add k).add j = a.add (k + j) := by
        unfold Addr.add
        by_cases hk0 : k = 0 <;> by_cases hj0 : j = 0 <;> simp [hk0, hj0, Nat.add_assoc]
      rw [e1]
      refine hcell (k + j) u ?_
      rw [← hu]
      simp [u8s, List.getElem?_drop]
    · subst h2
      simp only [List.length_nil] at hn
      rw [show n - k = 0 from by omega]
      simp only [List.drop_nil]
      exact Bytes.nil _ _ _

def lenOf : Value → Nat
  | .slice _ n _ => n
  | _ => 0

end Go.Proofs.Ytlglkkoippoafaa
namespace Go.Proofs.Ytlglkkoippoafaa
open Go.RowKit
set_option linter.unusedVariables false

theorem byte_at' (n k : Nat) : IntKind.u8.wrap (((n * 8 : Nat) : Int) / 2 ^ (8 * (k : Int)).toNat) = ((UInt8.ofNat (n * 8 / 256 ^ k)).toNat : Int) := by
  have e : (8 * (k : Int)).toNat = 8 * k := by omega
  have h1 : ((2 : Int) ^ (8 * k)) = ((256 ^ k : Nat) : Int) := by
    rw [Nat.pow_mul' 2 8 k |> (fun _ => (show ((2 : Int) ^ (8 * k)) = ((2 ^ (8 * k) : Nat) : Int) from by push_cast; rfl)), Nat.pow_mul]
  have h2 : ∀ z : Int, IntKind.u8.wrap z = z % 256 := fun _ => rfl
  rw [e, h1, h2, UInt8.toNat_ofNat', ← Int.natCast_ediv]
  omega

/-- The end's mark and noughts behind what waits. -/
def endCh (ch : List UInt8) (p : Nat) : List UInt8 := ch.take p ++ [128] ++ List.replicate (63 - p) 0
theorem endCh_length (ch : List UInt8) (p : Nat) (hl : ch.length = 64) (h : p < 64) : (endCh ch p).length = 64 := by
  unfold endCh; rw [List.length_append, List.length_append, List.length_take, List.length_replicate, hl]; simp; omega
/-- The state and the chunk ahead of the number of bits. -/
def fin1 (h : HS) : St × List UInt8 := if 56 ≤ h.n % 64 then (mixed h.s (endCh h.ch (h.n % 64)), List.replicate 64 0) else (h.s, endCh h.ch (h.n % 64))
theorem fin1_length (h : HS) (hl : h.ch.length = 64) : (fin1 h).2.length = 64 := by
  unfold fin1
  split
  · simp
  · exact endCh_length _ _ hl (by omega)
/-- The number of bits, written from the end. -/
def tailCh (ch : List UInt8) (t k : Nat) : List UInt8 := ch.take (64 - k) ++ (be t 8).drop (8 - k)
theorem tailCh_length (ch : List UInt8) (t k : Nat) (hl : ch.length = 64) (h : k ≤ 8) : (tailCh ch t k).length = 64 := by
  unfold tailCh; rw [List.length_append, List.length_take, List.length_drop, be_length, hl]; omega
theorem tailCh_zero (ch : List UInt8) (t : Nat) (hl : ch.length = 64) : tailCh ch t 0 = ch := by
  unfold tailCh
  rw [List.take_of_length_le (by omega), List.drop_of_length_le (by rw [be_length]; omega), List.append_nil]
theorem tailCh_succ (ch : List UInt8) (t k : Nat) (hl : ch.length = 64) (h : k < 8) : (tailCh ch t k).set (63 - k) (UInt8.ofNat (t / 256 ^ k)) = tailCh ch t (k + 1) := by
  unfold tailCh
  have h1 : (ch.take (64 - k)).length = 64 - k := by rw [List.length_take, hl]; omega
  rw [List.set_append_left _ _ (by omega), show 64 - k = (63 - k) + 1 from by omega, List.take_succ_eq_append_getElem (by omega), List.set_append_right _ _ (by rw [List.length_take, hl]; omega)]
  rw [show 63 - k - (ch.take (63 - k)).length = 0 from by rw [List.length_take, hl]; omega, List.set_cons_zero, show 64 - (k + 1) = 63 - k from by omega, List.append_assoc]
  congr 1
  rw [show 8 - (k + 1) = 7 - k from by omega, List.drop_eq_getElem_cons (i := 7 - k) (by rw [be_length]; omega), be_getD _ _ _ (by omega)]
  rw [show 8 - 1 - (7 - k) = k from by omega, show 7 - k + 1 = 8 - k from by omega]
  rfl
def finish (h : HS) : HS := ⟨mixed (fin1 h).1 (tailCh (fin1 h).2 (h.n * 8) 8), tailCh (fin1 h).2 (h.n * 8) 8, h.n⟩

theorem hcells_setbyte (s : St) (ch : List UInt8) (n i : Nat) (b : UInt8) (hl : ch.length = 64) (h : i < 64) : (hcells s ch n).set (8 + i) (.int .u8 (b.toNat : Int)) = hcells s (ch.set i b) n := by
  have h8 : (u32s s.list).length = 8 := rfl
  rw [hcells_def, hcells_def, List.set_append_right _ _ (by omega), h8, Nat.add_sub_cancel_left, List.set_append_left _ _ (by rw [u8s_length]; omega), ← u8s_set]

end Go.Proofs.Ytlglkkoippoafaa
namespace Go.Proofs.Ytlglkkoippoafaa
open Go.RowKit
set_option linter.unusedVariables false

/-- The digest's bytes. -/
def sumByte (s : St) (j : Nat) : UInt8 := UInt8.ofNat ((s.list.getD (j / 4) 0).toNat / 256 ^ (3 - j % 4))
def sumTo (s : St) (j : Nat) : List UInt8 := (List.range j).map (sumByte s) ++ List.replicate (32 - j) 0
theorem sumTo_length (s : St) (j : Nat) (h : j ≤ 32) : (sumTo s j).length = 32 := by unfold sumTo; simp; omega
theorem sumTo_succ (s : St) (j : Nat) (h : j < 32) : (sumTo s j).set j (sumByte s j) = sumTo s (j + 1) := by
  unfold sumTo
  rw [List.set_append_right _ _ (by simp), List.range_succ, List.map_append, List.append_assoc]
  obtain ⟨m, hm⟩ : ∃ m, 32 - j = m + 1 := ⟨31 - j, by omega⟩
  rw [hm, show 32 - (j + 1) = m from by omega, List.replicate_succ]
  simp
def digest (h : HS) : List UInt8 := sumTo (finish h).s 32
theorem digest_length (h : HS) : (digest h).length = 32 := sumTo_length _ _ (by omega)

theorem sum_shift' (x : Wd) (k : Nat) (hk : k < 4) : wn x / 2 ^ (24 - 8 * k) % 256 = ((UInt8.ofNat (x.toNat / 256 ^ (3 - k))).toNat : Int) := by
  have h1 : ((2 : Int) ^ (24 - 8 * k)) = ((256 ^ (3 - k) : Nat) : Int) := by
    rw [show ((2 : Int) ^ (24 - 8 * k)) = ((2 ^ (24 - 8 * k) : Nat) : Int) from by push_cast; rfl, show 24 - 8 * k = 8 * (3 - k) from by omega, Nat.pow_mul]
  rw [h1, UInt8.toNat_ofNat']
  unfold wn
  rw [← Int.natCast_ediv]
  omega
theorem u8s_all (bs : List UInt8) : (u8s bs).toArray.all (·.oneCell') = true := by
  rw [Array.all_eq_true_iff_forall_mem]
  intro v hv
  exact u8s_cell bs v (by simpa using hv)

theorem cells_all (s : St) (ch : List UInt8) (n : Nat) : (hcells s ch n).toArray.all (·.oneCell') = true := by
  rw [Array.all_eq_true_iff_forall_mem]
  intro v hv
  simp only [hcells, u32s, u8s, List.mem_toArray, List.mem_append, List.mem_map, List.mem_singleton] at hv
  rcases hv with (⟨_, _, rfl⟩ | ⟨_, _, rfl⟩) | rfl <;> rfl

def zst : St := ⟨0, 0, 0, 0, 0, 0, 0, 0⟩
def zcells : List Value := hcells zst (List.replicate 64 0) 0
theorem zcells_length : zcells.length = 73 := hcells_length _ _ _ (by simp)
end Go.Proofs.Ytlglkkoippoafaa
namespace Go.Proofs.Ytlglkkoippoafaa
open Go.RowKit
set_option linter.unusedVariables false

theorem run_forIn_yield {β : Type} {P : Program} {w : World} (b : β) (f : Nat → β → Sem (ForInStep β)) : ∀ (l : List Nat), (∀ i ∈ l, (f i b).run P w = .ok (.yield b) w) → (forIn l b f).run P w = .ok b w
  | [], _ => by simp
  | i :: l, h => by
    rw [List.forIn_cons, Sem.run_bind, h i (by simp), Result.andThen_ok]
    exact run_forIn_yield b f l fun j hj => h j (by simp [hj])

theorem run_equal_refl {P : Program} (w : World) (d : Nat) (t e : TypeId) (i : TypeInfo) (n : Nat) (bs : List UInt8) (ht : P.underlying t = some (.array n e)) (he : P.underlying e = some (.int .u8)) (hi : P.info? e = some i) (hs : i.size = 1) (hl : bs.length = n) :
    (Op.equalIn (d + 2) t (.agg (u8s bs).toArray) (.agg (u8s bs).toArray)).run P w = .ok true w := by
  have hp : ∀ j, j < n → (part e (u8s bs).toArray j).run P w = .ok (.int .u8 ((bs.getD j 0).toNat : Int)) w := fun j hj => by
    have h1 := u8s_get bs j (by omega)
    simp [part, isAgg, run_underlying he, h1]
  have hbody := run_forIn_yield (P := P) (w := w) ((none, ()) : Option Bool × Unit) (fun j __s => do
            let x ← part e (u8s bs).toArray j
            let y ← part e (u8s bs).toArray j
            let z ← Op.equalIn (d + 1) e x y
            if z = false then pure (ForInStep.done (some false, ())) else pure (ForInStep.yield (none, ()))) (List.range' 0 n) (fun j hj => by
      have hj' : j < n := by
        have := List.mem_range'_1.1 hj; omega
      simp only [Sem.run_bind, hp j hj', Result.andThen_ok, run_equalIn_int w d e .u8 .u8 _ _ he]
      simp)
  unfold Op.equalIn
  simp only [Sem.run_bind, run_underlying ht, Result.andThen_ok, sizeOf, typeInfo]
  simp [hi, hs, hbody]

/-- The digest of bytes. -/
def shaOf (bs : List UInt8) : List UInt8 := digest (feed hs0 bs)
theorem shaOf_length (bs : List UInt8) : (shaOf bs).length = 32 := digest_length _

theorem Try.sizeHash (bs : List UInt8) (h : bs.length = 32) : (Try.prog.info? 36).map (·.size) = some (u8s bs).toArray.size := by
  have e : (u8s bs).toArray.size = 32 := by rw [List.size_toArray, u8s_length]; exact h
  have e2 : (Try.prog.info? 36).map (·.size) = some 32 := by kernel_rfl
  rw [e]; exact e2
theorem size32 (bs cs : List UInt8) (h : bs.length = 32) (h' : cs.length = 32) : (u8s bs).toArray.size = (u8s cs).toArray.size := by
  rw [List.size_toArray, List.size_toArray, u8s_length, u8s_length, h, h']

theorem sha_nil : (shaOf []).take 4 = [227, 176, 196, 66] := by decide +kernel
theorem sha_abc : (shaOf [97, 98, 99]).take 4 = [186, 120, 22, 191] := by decide +kernel

end Go.Proofs.Ytlglkkoippoafaa
