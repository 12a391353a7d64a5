/- The words of a chunk; the state's rounds. No walk. -/
import Derived.Test.YtcbkopjklbiheaaDoorSha1
namespace Go.Proofs.YtcbkopjklbiheaaDoor
open Go.RowKit
set_option linter.unusedVariables false

/-- Words as cells. -/
def u32s (l : List Wd) : List Value := l.map fun x => .int .u32 (wn x)
theorem u32s_length (l : List Wd) : (u32s l).length = l.length := by simp [u32s]
theorem u32s_get (l : List Wd) (i : Nat) (h : i < l.length) : (u32s l)[i]? = some (.int .u32 (wn l[i])) := by simp [u32s, h]
theorem u32s_set (l : List Wd) (i : Nat) (x : Wd) : u32s (l.set i x) = (u32s l).set i (.int .u32 (wn x)) := by simp [u32s, List.map_set]

/-- A block that is known whole. -/
def Whole (w : World) (B : Nat) (t : TypeId) (cs : List Value) : Prop := w.heap[B]? = some (.cells cs.toArray t (0, 0))
theorem Whole.lt {w : World} {B : Nat} {t : TypeId} {cs : List Value} (h : Whole w B t cs) : B < w.heap.size := lt_of_block h
theorem Whole.cell {w : World} {B : Nat} {t : TypeId} {cs : List Value} (h : Whole w B t cs) {i : Nat} {v : Value} (hv : cs[i]? = some v) : w.cell? ⟨B, i, none⟩ = some v := by
  unfold Whole at h
  simp [World.cell?, h, hv]
theorem Whole.free {w : World} {B : Nat} {t : TypeId} {cs : List Value} (h : Whole w B t cs) (i : Nat) : w.frozen? ⟨B, i, none⟩ = false := by
  unfold Whole at h
  simp [World.frozen?, h]
theorem Whole.set {w : World} {B : Nat} {t : TypeId} {cs : List Value} (h : Whole w B t cs) (i : Nat) (v : Value) : Whole (w.setCell ⟨B, i, none⟩ v) B t (cs.set i v) := by
  unfold Whole at h ⊢
  simp [World.setCell, Array.getElem?_modify, h]
theorem Whole.keep {S : Nat → Prop} {w w' : World} {B : Nat} {t : TypeId} {cs : List Value} (h : Whole w B t cs) (k : Keeps S w w') (hB : ¬ S B) : Whole w' B t cs := k.obj h hB
theorem Whole.far {w : World} {B : Nat} {t : TypeId} {cs : List Value} (h : Whole w B t cs) (p : Addr) (hp : B ≠ p.block) (v : Value) : Whole (w.setCell p v) B t cs := (Below.heap_setCell w p v B hp).trans h

theorem wrap_wn (x : Wd) : IntKind.u32.wrap (wn x) = wn x := wrap_wd x
theorem w_shl24 (x : Wd) : IntKind.u32.wrap (wn x * 16777216) = wn (x <<< 24) := w_shl x 24
theorem w_shl16 (x : Wd) : IntKind.u32.wrap (wn x * 65536) = wn (x <<< 16) := w_shl x 16
theorem w_shl8 (x : Wd) : IntKind.u32.wrap (wn x * 256) = wn (x <<< 8) := w_shl x 8
theorem w_shr3 (x : Wd) : wn x / (8 : Int) = wn (x >>> 3) := w_shr x 3
theorem w_shr10 (x : Wd) : wn x / (1024 : Int) = wn (x >>> 10) := w_shr x 10

theorem w_add3 (x y z : Wd) : (wn x + wn y + wn z) % 4294967296 = wn (x + y + z) := by
  rw [← w_add (x + y) z, ← w_add x y]; omega
theorem w_add4 (x y z u : Wd) : (wn x + wn y + wn z + wn u) % 4294967296 = wn (x + y + z + u) := by
  rw [← w_add (x + y + z) u, ← w_add3 x y z]; omega
theorem w_add5 (x y z u v : Wd) : (wn x + wn y + wn z + wn u + wn v) % 4294967296 = wn (x + y + z + u + v) := by
  rw [← w_add (x + y + z + u) v, ← w_add4 x y z u]; omega

theorem w_not (x : Wd) : bits BinOp.xor IntKind.u32 4294967295 (wn x) = wn (~~~ x) := by
  have h : (4294967295 : Int) = wn (BitVec.allOnes 32) := by decide +kernel
  rw [h, w_xor, BitVec.allOnes_xor]

theorem w_notI (x : Wd) : bits BinOp.xor IntKind.u32 (if IntKind.u32.signed = true then -1 else IntKind.u32.max) (wn x) = wn (~~~ x) := w_not x

/-- A byte as a word. -/
def ext (b : UInt8) : Wd := BitVec.ofNat 32 b.toNat
theorem ext_wn (b : UInt8) : (b.toNat : Int) = wn (ext b) := by
  have := b.toNat_lt
  unfold ext; rw [wn_mk _ (by omega)]
theorem ext_small (b : UInt8) : wn (ext b) < 256 := by
  have := b.toNat_lt
  rw [← ext_wn]; omega
/-- Four bytes as a word. -/
def word4 (b0 b1 b2 b3 : UInt8) : Wd := ((ext b0 <<< 24 ||| ext b1 <<< 16) ||| ext b2 <<< 8) ||| ext b3
/-- The sixteen words of a chunk. -/
def words16 (ch : List UInt8) : List Wd := (List.range 16).map fun i => word4 (ch.getD (4 * i) 0) (ch.getD (4 * i + 1) 0) (ch.getD (4 * i + 2) 0) (ch.getD (4 * i + 3) 0)
theorem words16_length (ch : List UInt8) : (words16 ch).length = 16 := by simp [words16]
theorem words16_get (ch : List UInt8) (i : Nat) (h : i < 16) : (words16 ch)[i]'(by rw [words16_length]; exact h) = word4 (ch.getD (4 * i) 0) (ch.getD (4 * i + 1) 0) (ch.getD (4 * i + 2) 0) (ch.getD (4 * i + 3) 0) := by simp [words16]
/-- A list's beginning, noughts behind. -/
def upTo (l : List Wd) (i n : Nat) : List Wd := l.take i ++ List.replicate (n - i) 0
theorem upTo_length (l : List Wd) (i n : Nat) (h : i ≤ l.length) (hn : i ≤ n) : (upTo l i n).length = n := by
  unfold upTo; rw [List.length_append, List.length_take, List.length_replicate]; omega
theorem upTo_succ (l : List Wd) (i n : Nat) (h : i < l.length) (hn : i < n) : (upTo l i n).set i l[i] = upTo l (i + 1) n := by
  unfold upTo
  have hl : (l.take i).length = i := by rw [List.length_take]; omega
  rw [List.set_append_right _ _ (by omega), hl, Nat.sub_self, List.take_succ_eq_append_getElem h, List.append_assoc]
  obtain ⟨m, hm⟩ : ∃ m, n - i = m + 1 := ⟨n - i - 1, by omega⟩
  rw [hm, show n - (i + 1) = m from by omega, List.replicate_succ, List.set_cons_zero]
  rfl
theorem upTo_get (l : List Wd) (i n j : Nat) (h : i ≤ l.length) (hn : i ≤ n) (hj : j < i) : (upTo l i n)[j]? = some (l[j]'(by omega)) := by
  unfold upTo
  rw [List.getElem?_append_left (by rw [List.length_take]; omega), List.getElem?_take_of_lt hj, List.getElem?_eq_getElem]

def sig0 (x : Wd) : Wd := (rr x 7 ^^^ rr x 18) ^^^ x >>> 3
def sig1 (x : Wd) : Wd := (rr x 17 ^^^ rr x 19) ^^^ x >>> 10
/-- The word behind some. -/
def nextW (l : List Wd) : Wd := ((l.getD (l.length - 16) 0 + l.getD (l.length - 7) 0) + sig0 (l.getD (l.length - 15) 0)) + sig1 (l.getD (l.length - 2) 0)
def sched (ch : List UInt8) : Nat → List Wd
  | 0 => words16 ch
  | k + 1 => sched ch k ++ [nextW (sched ch k)]
theorem sched_length (ch : List UInt8) : ∀ k, (sched ch k).length = 16 + k
  | 0 => words16_length ch
  | k + 1 => by simp [sched, sched_length ch k]; omega
/-- Words, noughts behind, as many as are given. -/
def fill (l : List Wd) (n : Nat) : List Wd := l ++ List.replicate (n - l.length) 0
theorem fill_length (l : List Wd) (n : Nat) (h : l.length ≤ n) : (fill l n).length = n := by unfold fill; rw [List.length_append, List.length_replicate]; omega
theorem fill_snoc (l : List Wd) (n : Nat) (h : l.length < n) (x : Wd) : (fill l n).set l.length x = fill (l ++ [x]) n := by
  unfold fill
  rw [List.set_append_right _ _ (Nat.le_refl _), Nat.sub_self]
  obtain ⟨m, hm⟩ : ∃ m, n - l.length = m + 1 := ⟨n - l.length - 1, by omega⟩
  rw [hm, List.replicate_succ, List.set_cons_zero, List.length_append, List.length_singleton, show n - (l.length + 1) = m from by omega, List.append_assoc]
  rfl
theorem fill_get (l : List Wd) (n j : Nat) (h : j < l.length) : (fill l n)[j]? = some (l.getD j 0) := by
  unfold fill
  rw [List.getElem?_append_left h, List.getElem?_eq_getElem h]
  simp [List.getD, h]

/-- The round numbers. -/
def roundKs : List Wd := [1116352408, 1899447441, 3049323471, 3921009573, 961987163, 1508970993, 2453635748, 2870763221, 3624381080, 310598401, 607225278, 1426881987, 1925078388, 2162078206, 2614888103, 3248222580, 3835390401, 4022224774, 264347078, 604807628, 770255983, 1249150122, 1555081692, 1996064986, 2554220882, 2821834349, 2952996808, 3210313671, 3336571891, 3584528711, 113926993, 338241895, 666307205, 773529912, 1294757372, 1396182291, 1695183700, 1986661051, 2177026350, 2456956037, 2730485921, 2820302411, 3259730800, 3345764771, 3516065817, 3600352804, 4094571909, 275423344, 430227734, 506948616, 659060556, 883997877, 958139571, 1322822218, 1537002063, 1747873779, 1955562222, 2024104815, 2227730452, 2361852424, 2428436474, 2756734187, 3204031479, 3329325298]
theorem roundKs_length : roundKs.length = 64 := rfl

/-- The eight words. -/
structure St where
  a : Wd
  b : Wd
  c : Wd
  d : Wd
  e : Wd
  f : Wd
  g : Wd
  h : Wd
def chW (e f g : Wd) : Wd := (e &&& f) ^^^ (~~~ e &&& g)
def majW (a b c : Wd) : Wd := ((a &&& b) ^^^ (a &&& c)) ^^^ (b &&& c)
def bs1 (e : Wd) : Wd := (rr e 6 ^^^ rr e 11) ^^^ rr e 25
def bs0 (a : Wd) : Wd := (rr a 2 ^^^ rr a 13) ^^^ rr a 22
def pW (s : St) (k x : Wd) : Wd := (((s.h + k) + x) + chW s.e s.f s.g) + bs1 s.e
def qW (s : St) : Wd := majW s.a s.b s.c + bs0 s.a
def step (s : St) (k x : Wd) : St := ⟨pW s k x + qW s, s.a, s.b, s.c, s.d + pW s k x, s.e, s.f, s.g⟩
def rounds (s : St) (l : List Wd) : Nat → St
  | 0 => s
  | t + 1 => step (rounds s l t) (roundKs.getD t 0) (l.getD t 0)
def St.list (s : St) : List Wd := [s.a, s.b, s.c, s.d, s.e, s.f, s.g, s.h]
def St.add (s t : St) : St := ⟨s.a + t.a, s.b + t.b, s.c + t.c, s.d + t.d, s.e + t.e, s.f + t.f, s.g + t.g, s.h + t.h⟩
/-- A chunk, mixed into the eight words. -/
def mixed (s : St) (ch : List UInt8) : St := s.add (rounds s (sched ch 48) 64)

/-- The cells of a hasher. -/
def hcells (s : St) (ch : List UInt8) (n : Nat) : List Value := u32s s.list ++ u8s ch ++ [.int .u64 (n : Int)]
theorem hcells_word (s : St) (ch : List UInt8) (n i : Nat) (h : i < 8) : (hcells s ch n)[i]? = some (.int .u32 (wn (s.list.getD i 0))) := by
  unfold hcells
  rw [List.append_assoc, List.getElem?_append_left (by rw [u32s_length]; exact h), u32s_get _ _ h]
  simp [List.getD, show i < s.list.length from h]
  rfl
theorem hcells_byte (s : St) (ch : List UInt8) (n i : Nat) (hl : ch.length = 64) (h : i < 64) : (hcells s ch n)[8 + i]? = some (.int .u8 ((ch.getD i 0).toNat : Int)) := by
  unfold hcells
  have h8 : (u32s s.list).length = 8 := rfl
  rw [List.append_assoc, List.getElem?_append_right (by omega), h8, Nat.add_sub_cancel_left, List.getElem?_append_left (by rw [u8s_length]; omega), u8s_get _ _ (by omega)]
theorem hcells_count (s : St) (ch : List UInt8) (n : Nat) (hl : ch.length = 64) : (hcells s ch n)[72]? = some (.int .u64 (n : Int)) := by
  unfold hcells
  have h8 : (u32s s.list).length = 8 := rfl
  rw [List.getElem?_append_right (by rw [List.length_append, u8s_length, h8, hl]; omega), List.length_append, u8s_length, h8, hl]
  rfl
theorem hcells_length (s : St) (ch : List UInt8) (n : Nat) (hl : ch.length = 64) : (hcells s ch n).length = 73 := by
  unfold hcells
  rw [List.length_append, List.length_append, u8s_length, hl]
  rfl

theorem hcells_def (s : St) (ch : List UInt8) (n : Nat) : hcells s ch n = u32s s.list ++ (u8s ch ++ [.int .u64 (n : Int)]) := by unfold hcells; rw [List.append_assoc]
/-- The words while they are added to, one by one. -/
def addUp (s r : St) (i : Nat) : List Wd := (s.add r).list.take i ++ s.list.drop i
theorem addUp_length (s r : St) (i : Nat) (h : i ≤ 8) : (addUp s r i).length = 8 := by
  unfold addUp
  have h1 : (s.add r).list.length = 8 := rfl
  have h2 : s.list.length = 8 := rfl
  rw [List.length_append, List.length_take, List.length_drop, h1, h2]; omega
theorem addUp_zero (s r : St) : addUp s r 0 = s.list := rfl
theorem addUp_all (s r : St) : addUp s r 8 = (s.add r).list := rfl
theorem addUp_get (s r : St) (i : Nat) (h : i < 8) : (addUp s r i)[i]? = some (s.list.getD i 0) := by
  rcases (by omega : i = 0 ∨ i = 1 ∨ i = 2 ∨ i = 3 ∨ i = 4 ∨ i = 5 ∨ i = 6 ∨ i = 7) with rfl | rfl | rfl | rfl | rfl | rfl | rfl | rfl <;> rfl
theorem addUp_set (s r : St) (i : Nat) (h : i < 8) : (addUp s r i).set i (s.list.getD i 0 + r.list.getD i 0) = addUp s r (i + 1) := by
  rcases (by omega : i = 0 ∨ i = 1 ∨ i = 2 ∨ i = 3 ∨ i = 4 ∨ i = 5 ∨ i = 6 ∨ i = 7) with rfl | rfl | rfl | rfl | rfl | rfl | rfl | rfl <;> rfl
theorem words_set (l : List Wd) (rest : List Value) (i : Nat) (h : i < l.length) (x : Wd) : (u32s l ++ rest).set i (.int .u32 (wn x)) = u32s (l.set i x) ++ rest := by
  rw [List.set_append_left _ _ (by rw [u32s_length]; exact h), u32s_set]
theorem words_get (l : List Wd) (rest : List Value) (i : Nat) (x : Wd) (h : l[i]? = some x) : (u32s l ++ rest)[i]? = some (.int .u32 (wn x)) := by
  have hl := (List.getElem?_eq_some_iff.1 h).1
  rw [List.getElem?_append_left (by rw [u32s_length]; exact hl), u32s, List.getElem?_map, h]; rfl

end Go.Proofs.YtcbkopjklbiheaaDoor
