/- The document's Read of a node: what it refuses at once. -/
import Derived.Test.YtdeajjppmgfemaaNd17
namespace Go.Proofs.Ytdeajjppmgfemaa
open Go.RowKit
set_option linter.unusedVariables false

theorem numAt_one {bs : List UInt8} {i : Nat} {b : UInt8} (h : bs[i]? = some b) : numAt bs i 1 = b.toNat ∧ numTo bs i 1 = i + 1 := by
  have hl := (List.getElem?_eq_some_iff.1 h).1
  have h1 : (bs.drop i).take 1 = [b] := by
    rw [List.drop_eq_getElem_cons hl, List.take_succ_cons, List.take_zero]
    obtain ⟨h2, h3⟩ := List.getElem?_eq_some_iff.1 h
    rw [h3]
  unfold numAt numTo
  rw [if_pos (by omega), if_pos (by omega), h1]
  exact ⟨by simp [beVal], rfl⟩
theorem bytes_at {w : World} {g off n c : Nat} {bs : List UInt8} (h : Bytes w (.slice (some ⟨g, off, none⟩) n c) bs) {i : Nat} {b : UInt8} (hb : bs[i]? = some b) : w.cell? ⟨g, off + i, none⟩ = some (.int .u8 (b.toNat : Int)) := by
  rcases h with ⟨a, c', e, hc⟩ | ⟨c', e, _⟩
  · simp only [Value.slice.injEq, Option.some.injEq] at e
    obtain ⟨rfl, _, _⟩ := e
    have := hc i (.int .u8 (b.toNat : Int)) (by simp [u8s, hb])
    rwa [add_at] at this
  · simp at e
/-- What stands ahead of the document's reading. -/
structure NBegin (w w0 : World) : Prop where
  r : Whole w0 w.heap.size 25 node0
  n : Whole w0 (w.heap.size + 1) 25 node0
  same : Same w w0
  size : w0.heap.size = w.heap.size + 2
theorem NBegin.of (w : World) : NBegin w ((w.alloc (.cells #[.int .i64 0, .slice none 0 0, .slice none 0 0] 25)).alloc (.cells #[.int .i64 0, .slice none 0 0, .slice none 0 0] 25)) :=
  ⟨heap_alloc2_old w _ _, heap_alloc2_new w _ _, ((Keeps.refl _ _).alloc _).alloc _, by simp⟩
theorem NBegin.over {w w0 w' : World} (h : NBegin w w0) (k : Same w0 w') : Same w (w'.setRow w.heap.size node0.toArray) ∧ Whole (w'.setRow w.heap.size node0.toArray) w.heap.size 25 node0 :=
  ⟨(h.same.trans k (fun _ _ e => e)).setRow _ _ (.inl (Nat.le_refl _)), (h.r.keep k (fun e => e)).row⟩

set_option maxRecDepth 100000 in
set_option maxHeartbeats 6400000 in
theorem refNode_short (ao : Option Addr) (n c : Nat) (bs : List UInt8) (w : World) (hn : bs.length = n) (h : n < 3) :
    Calls Try.prog 14 #[.slice ao n c] w (RdPost w bs) := by
  have HNO : Hid (∀ lv ps ks, NFit lv ps ks → nodeB lv.toNat ps ks ≠ bs) := Lib.hid (fun lv ps ks hf hb => by
    obtain ⟨⟨r1, r2⟩, ⟨r3, r4, r5⟩, r6, r7, r8, _⟩ := rd_of_node hf hb
    have r9 := hf.1.1
    omega)
  have HIO := Lib.hid Try.sizeNode3
  obtain ⟨w0, hw0⟩ : ∃ w0, (w.alloc (.cells #[.int .i64 0, .slice none 0 0, .slice none 0 0] 25)).alloc (.cells #[.int .i64 0, .slice none 0 0, .slice none 0 0] 25) = w0 := ⟨_, rfl⟩
  have HB : Hid (NBegin w w0) := Lib.hid (by rw [← hw0]; exact NBegin.of w)
  have HEND := Lib.hid (HB.out.over (Keeps.refl _ _))
  have HR := Lib.hid HB.out.r
  have hz0 : w.heap.size + 1 < w0.heap.size := by have := HB.out.size; omega
  have n0 := HB.out.n.cell (i := 0) rfl
  have n1 := HB.out.n.cell (i := 1) rfl
  have n2 := HB.out.n.cell (i := 2) rfl
  have g1 : (n : Int) < 3 := by omega
  clear hn
  subst hw0
  go_enter Try.func14, Try.ntmps14
  go_wp2_with (first
    | (refine wpList_store_row (by rfl) 25 _ _ (by rfl) w.heap.size node0.toArray (by rfl) (by rfl) 25 node0.toArray HR.out HIO.out rfl node0_all ?_))
  refine bodyPost_ret (v := .tuple #[.agg node0.toArray, .int .i64 22]) (results_row_tmp (p := 2) (u := 3) (ty := 25) rfl _ _ w.heap.size 25 _ (0, 0) _ (by rfl) HEND.out.2 Try.underlying25 rfl HIO.out) rfl
    (RdPost.no HEND.out.1 HNO.out)

set_option maxRecDepth 100000 in
set_option maxHeartbeats 6400000 in
theorem refNode_long (ao : Option Addr) (n c : Nat) (bs : List UInt8) (w : World) (hn : bs.length = n) (h : 470 < n) :
    Calls Try.prog 14 #[.slice ao n c] w (RdPost w bs) := by
  have HNO : Hid (∀ lv ps ks, NFit lv ps ks → nodeB lv.toNat ps ks ≠ bs) := Lib.hid (fun lv ps ks hf hb => by
    obtain ⟨⟨r1, r2⟩, ⟨r3, r4, r5⟩, r6, r7, r8, _⟩ := rd_of_node hf hb
    have r9 := hf.1.1
    omega)
  have HIO := Lib.hid Try.sizeNode3
  obtain ⟨w0, hw0⟩ : ∃ w0, (w.alloc (.cells #[.int .i64 0, .slice none 0 0, .slice none 0 0] 25)).alloc (.cells #[.int .i64 0, .slice none 0 0, .slice none 0 0] 25) = w0 := ⟨_, rfl⟩
  have HB : Hid (NBegin w w0) := Lib.hid (by rw [← hw0]; exact NBegin.of w)
  have HEND := Lib.hid (HB.out.over (Keeps.refl _ _))
  have HR := Lib.hid HB.out.r
  have hz0 : w.heap.size + 1 < w0.heap.size := by have := HB.out.size; omega
  have n0 := HB.out.n.cell (i := 0) rfl
  have n1 := HB.out.n.cell (i := 1) rfl
  have n2 := HB.out.n.cell (i := 2) rfl
  have g1 : ¬ (n : Int) < 3 := by omega
  have g2 : (470 : Int) < (n : Int) := by omega
  clear hn
  subst hw0
  go_enter Try.func14, Try.ntmps14
  go_wp2_with (first
    | (refine wpList_store_row (by rfl) 25 _ _ (by rfl) w.heap.size node0.toArray (by rfl) (by rfl) 25 node0.toArray HR.out HIO.out rfl node0_all ?_))
  refine bodyPost_ret (v := .tuple #[.agg node0.toArray, .int .i64 22]) (results_row_tmp (p := 2) (u := 3) (ty := 25) rfl _ _ w.heap.size 25 _ (0, 0) _ (by rfl) HEND.out.2 Try.underlying25 rfl HIO.out) rfl
    (RdPost.no HEND.out.1 HNO.out)

set_option maxRecDepth 100000 in
set_option maxHeartbeats 6400000 in
theorem refNode_mark (g off n c : Nat) (bs : List UInt8) (w : World) (hx : Bytes w (.slice (some ⟨g, off, none⟩) n c) bs) (hn : bs.length = n) (b0 b1 : UInt8) (e0 : bs[0]? = some b0) (e1 : bs[1]? = some b1) (h3 : 3 ≤ n) (h470 : n ≤ 470) (h : ¬ b0.toNat = 84) :
    Calls Try.prog 14 #[.slice (some ⟨g, off, none⟩) n c] w (RdPost w bs) := by
  have HNO : Hid (∀ lv ps ks, NFit lv ps ks → nodeB lv.toNat ps ks ≠ bs) := Lib.hid (fun lv ps ks hf hb => by
    obtain ⟨⟨r1, r2⟩, ⟨r3, r4, r5⟩, r6, r7, r8, _⟩ := rd_of_node hf hb
    have r9 := hf.1.1
    have := (numAt_one e0).1; omega)
  have HIO := Lib.hid Try.sizeNode3
  obtain ⟨w0, hw0⟩ : ∃ w0, (w.alloc (.cells #[.int .i64 0, .slice none 0 0, .slice none 0 0] 25)).alloc (.cells #[.int .i64 0, .slice none 0 0, .slice none 0 0] 25) = w0 := ⟨_, rfl⟩
  have HB : Hid (NBegin w w0) := Lib.hid (by rw [← hw0]; exact NBegin.of w)
  have HEND := Lib.hid (HB.out.over (Keeps.refl _ _))
  have HR := Lib.hid HB.out.r
  have hz0 : w.heap.size + 1 < w0.heap.size := by have := HB.out.size; omega
  have n0 := HB.out.n.cell (i := 0) rfl
  have n1 := HB.out.n.cell (i := 1) rfl
  have n2 := HB.out.n.cell (i := 2) rfl
  have g1 : ¬ (n : Int) < 3 := by omega
  have g2 : ¬ (470 : Int) < (n : Int) := by omega
  have g3 : (0 : Int) < (n : Int) ∧ (1 : Int) < (n : Int) := by omega
  have c0 : w.cell? ⟨g, off, none⟩ = some (.int .u8 (b0.toNat : Int)) := bytes_at hx e0
  have c1 := bytes_at hx e1
  have hgl := World.block_lt_of_cell? _ _ c0
  have c0' : w0.cell? ⟨g, off, none⟩ = some (.int .u8 (b0.toNat : Int)) := bytes_at (hx.same HB.out.same) e0
  have c1' := bytes_at (hx.same HB.out.same) e1
  simp only at hgl
  have hb0 := b0.toNat_lt
  have hb1 := b1.toNat_lt
  have g4 : ((b0.toNat : Int) == 84) = false := by simp; omega
  have g4a : ((b0.toNat : Int) != 84) = true := by simp; omega
  have g4b : ¬ (b0.toNat : Int) = 84 := by omega
  clear hn hx e0 e1 h
  subst hw0
  go_enter Try.func14, Try.ntmps14
  go_wp2_with (first
    | (refine wpList_store_row (by rfl) 25 _ _ (by rfl) w.heap.size node0.toArray (by rfl) (by rfl) 25 node0.toArray HR.out HIO.out rfl node0_all ?_))
  refine bodyPost_ret (v := .tuple #[.agg node0.toArray, .int .i64 22]) (results_row_tmp (p := 2) (u := 3) (ty := 25) rfl _ _ w.heap.size 25 _ (0, 0) _ (by rfl) HEND.out.2 Try.underlying25 rfl HIO.out) rfl
    (RdPost.no HEND.out.1 HNO.out)

set_option maxRecDepth 100000 in
set_option maxHeartbeats 6400000 in
theorem refNode_level (g off n c : Nat) (bs : List UInt8) (w : World) (hx : Bytes w (.slice (some ⟨g, off, none⟩) n c) bs) (hn : bs.length = n) (b0 b1 : UInt8) (e0 : bs[0]? = some b0) (e1 : bs[1]? = some b1) (h3 : 3 ≤ n) (h470 : n ≤ 470) (h : b0.toNat = 84) (h1 : 15 < b1.toNat) :
    Calls Try.prog 14 #[.slice (some ⟨g, off, none⟩) n c] w (RdPost w bs) := by
  have HNO : Hid (∀ lv ps ks, NFit lv ps ks → nodeB lv.toNat ps ks ≠ bs) := Lib.hid (fun lv ps ks hf hb => by
    obtain ⟨⟨r1, r2⟩, ⟨r3, r4, r5⟩, r6, r7, r8, _⟩ := rd_of_node hf hb
    have r9 := hf.1.1
    have := (numAt_one e1).1; omega)
  have HIO := Lib.hid Try.sizeNode3
  obtain ⟨w0, hw0⟩ : ∃ w0, (w.alloc (.cells #[.int .i64 0, .slice none 0 0, .slice none 0 0] 25)).alloc (.cells #[.int .i64 0, .slice none 0 0, .slice none 0 0] 25) = w0 := ⟨_, rfl⟩
  have HB : Hid (NBegin w w0) := Lib.hid (by rw [← hw0]; exact NBegin.of w)
  have HEND := Lib.hid (HB.out.over (Keeps.refl _ _))
  have HR := Lib.hid HB.out.r
  have hz0 : w.heap.size + 1 < w0.heap.size := by have := HB.out.size; omega
  have n0 := HB.out.n.cell (i := 0) rfl
  have n1 := HB.out.n.cell (i := 1) rfl
  have n2 := HB.out.n.cell (i := 2) rfl
  have g1 : ¬ (n : Int) < 3 := by omega
  have g2 : ¬ (470 : Int) < (n : Int) := by omega
  have g3 : (0 : Int) < (n : Int) ∧ (1 : Int) < (n : Int) := by omega
  have c0 : w.cell? ⟨g, off, none⟩ = some (.int .u8 (b0.toNat : Int)) := bytes_at hx e0
  have c1 := bytes_at hx e1
  have hgl := World.block_lt_of_cell? _ _ c0
  have c0' : w0.cell? ⟨g, off, none⟩ = some (.int .u8 (b0.toNat : Int)) := bytes_at (hx.same HB.out.same) e0
  have c1' := bytes_at (hx.same HB.out.same) e1
  simp only at hgl
  have hb0 := b0.toNat_lt
  have hb1 := b1.toNat_lt
  have h84 : (b0.toNat : Int) = 84 := by omega
  rw [h84] at c0 c0'
  clear h84
  have g5 : (15 : Int) < (b1.toNat : Int) := by omega
  clear hn hx e0 e1 h
  subst hw0
  go_enter Try.func14, Try.ntmps14
  go_wp2_with (first
    | (refine wpList_store_row (by rfl) 25 _ _ (by rfl) w.heap.size node0.toArray (by rfl) (by rfl) 25 node0.toArray HR.out HIO.out rfl node0_all ?_))
  refine bodyPost_ret (v := .tuple #[.agg node0.toArray, .int .i64 22]) (results_row_tmp (p := 2) (u := 3) (ty := 25) rfl _ _ w.heap.size 25 _ (0, 0) _ (by rfl) HEND.out.2 Try.underlying25 rfl HIO.out) rfl
    (RdPost.no HEND.out.1 HNO.out)
end Go.Proofs.Ytdeajjppmgfemaa
