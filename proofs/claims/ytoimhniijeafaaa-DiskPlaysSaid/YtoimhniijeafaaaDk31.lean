/- The document's Crash. -/
import Derived.Test.YtoimhniijeafaaaDk30
namespace Go.Proofs.Ytoimhniijeafaaa
open Go.RowKit
set_option linter.unusedVariables false

def sufC (f n : Int) (t : Nat) : Prop := f = 1 ∨ (f = 2 ∧ (t : Int) < n) ∨ (f = 3 ∧ n ≤ (t : Int))
instance (f n : Int) (t : Nat) : Decidable (sufC f n t) := by unfold sufC; infer_instance
/-- A sector into which so many bytes were looked at. -/
def sufK (old new : List UInt8) (f n : Int) (k : Nat) : List UInt8 := (List.range 512).map fun t => if t < k ∧ sufC f n t then new.getD t 0 else old.getD t 0
theorem sufK_length (old new : List UInt8) (f n : Int) (k : Nat) : (sufK old new f n k).length = 512 := by simp [sufK]
theorem sufK_get (old new : List UInt8) (f n : Int) (k i : Nat) (h : i < 512) : (sufK old new f n k)[i]? = some (if i < k ∧ sufC f n i then new.getD i 0 else old.getD i 0) := by
  unfold sufK
  rw [List.getElem?_map, List.getElem?_range h]
  rfl
theorem sufK_zero (old new : List UInt8) (f n : Int) (h : old.length = 512) : sufK old new f n 0 = old := by
  apply List.ext_getElem?
  intro i
  by_cases hi : i < 512
  · rw [sufK_get _ _ _ _ _ _ hi, if_neg (by omega), List.getD_eq_getElem?_getD, List.getElem?_eq_getElem (by omega)]; rfl
  · rw [List.getElem?_eq_none (by rw [sufK_length]; omega), List.getElem?_eq_none (by omega)]
theorem sufK_hit (old new : List UInt8) (f n : Int) (k : Nat) (h : k < 512) (hc : sufC f n k) : (sufK old new f n k).set k (new.getD k 0) = sufK old new f n (k + 1) := by
  apply List.ext_getElem?
  intro i
  by_cases hi : i < 512
  · rw [List.getElem?_set, sufK_get old new f n (k + 1) i hi]
    by_cases e : k = i
    · subst e; rw [if_pos rfl, if_pos (by rw [sufK_length]; omega), if_pos ⟨by omega, hc⟩]
    · rw [if_neg e, sufK_get _ _ _ _ _ _ hi]
      by_cases q : i < k ∧ sufC f n i
      · rw [if_pos q, if_pos ⟨by omega, q.2⟩]
      · rw [if_neg q, if_neg (fun q2 => q ⟨by omega, q2.2⟩)]
  · rw [List.getElem?_eq_none (by rw [List.length_set, sufK_length]; omega), List.getElem?_eq_none (by rw [sufK_length]; omega)]
theorem sufK_miss (old new : List UInt8) (f n : Int) (k : Nat) (hc : ¬ sufC f n k) : sufK old new f n k = sufK old new f n (k + 1) := by
  apply List.ext_getElem?
  intro i
  by_cases hi : i < 512
  · rw [sufK_get _ _ _ _ _ _ hi, sufK_get _ _ _ _ _ _ hi]
    by_cases q : i < k ∧ sufC f n i
    · rw [if_pos q, if_pos ⟨by omega, q.2⟩]
    · rw [if_neg q, if_neg (fun q2 => by
        by_cases e : i = k
        · subst e; exact hc q2.2
        · exact q ⟨by omega, q2.2⟩)]
  · rw [List.getElem?_eq_none (by rw [sufK_length]; omega), List.getElem?_eq_none (by rw [sufK_length]; omega)]
theorem sufK_end (old new : List UInt8) (z : Int) (h1 : old.length = 512) (h2 : new.length = 512) : sufK old new (z % 4) ((z / 4) % 513) 512 = suffered old new z := by
  have hn0 := Int.emod_nonneg (z / 4) (show (513 : Int) ≠ 0 by decide)
  have hn1 := Int.emod_lt_of_pos (z / 4) (show (0 : Int) < 513 by decide)
  obtain ⟨m, hm⟩ : ∃ m : Nat, (z / 4) % 513 = (m : Int) := ⟨((z / 4) % 513).toNat, by omega⟩
  apply List.ext_getElem?
  intro i
  by_cases hi : i < 512
  · rw [sufK_get _ _ _ _ _ _ hi]
    unfold suffered
    rw [hm, Int.toNat_natCast]
    have e1 : new[i]? = some (new.getD i 0) := by rw [List.getD_eq_getElem?_getD, List.getElem?_eq_getElem (by omega)]; rfl
    have e2 : old[i]? = some (old.getD i 0) := by rw [List.getD_eq_getElem?_getD, List.getElem?_eq_getElem (by omega)]; rfl
    have key : ∀ (a b : List UInt8), a.length = 512 → b.length = 512 → (a.take m ++ b.drop m)[i]? = if i < m then a[i]? else b[i]? := by
      intro a b ha hb
      by_cases q : i < m
      · rw [if_pos q, List.getElem?_append_left (by simp; omega)]; simp [q]
      · rw [if_neg q, List.getElem?_append_right (by simp; omega), List.getElem?_drop, List.length_take, Nat.min_eq_left (by omega)]
        congr 1; omega
    unfold sufC
    by_cases c1 : z % 4 = 1
    · rw [if_pos c1, if_pos ⟨hi, .inl c1⟩, e1]
    · rw [if_neg c1]
      by_cases c2 : z % 4 = 2
      · rw [if_pos c2, key new old h2 h1]
        by_cases q : i < m
        · rw [if_pos q, if_pos ⟨hi, .inr (.inl ⟨c2, by omega⟩)⟩, e1]
        · rw [if_neg q, if_neg (by rintro ⟨_, h | ⟨_, h⟩ | ⟨h, _⟩⟩ <;> omega), e2]
      · rw [if_neg c2]
        by_cases c3 : z % 4 = 3
        · rw [if_pos c3, key old new h1 h2]
          by_cases q : i < m
          · rw [if_pos q, if_neg (by rintro ⟨_, h | ⟨h, _⟩ | ⟨_, h⟩⟩ <;> omega), e2]
          · rw [if_neg q, if_pos ⟨hi, .inr (.inr ⟨c3, by omega⟩)⟩, e1]
        · rw [if_neg c3, if_neg (by rintro ⟨_, h | ⟨h, _⟩ | ⟨h, _⟩⟩ <;> omega), e2]
  · rw [List.getElem?_eq_none (by rw [sufK_length]; omega), List.getElem?_eq_none (by rw [suffered_length h1 h2]; omega)]
/-- A byte of one of the rows that last is stored. -/
theorem RefAt.poke {w : World} {E : Nat} {lv : Value} {left : Int} {down : Bool} (Lo : List (Value × List UInt8)) (m : Nat) (hm : m < Lo.length) (g c : Nat) (t : Nat) (ht : t < 512) (ub : UInt8) (x : List UInt8)
    (h : RefAt w E lv (.slice none 0 0) (Lo.set m (.slice (some ⟨g, 0, none⟩) 512 c, x)) [] left down) (hdist : ∀ j (hj : j < Lo.length), j ≠ m → Lo[j].1.ownBlock ≠ some g) :
    RefAt (w.setCell ⟨g, t, none⟩ (.int .u8 (ub.toNat : Int))) E lv (.slice none 0 0) (Lo.set m (.slice (some ⟨g, 0, none⟩) 512 c, x.set t ub)) [] left down ∧ Keeps (fun k => k = g) w (w.setCell ⟨g, t, none⟩ (.int .u8 (ub.toNat : Int))) := by
  have hk : Keeps (fun k => k = g) w (w.setCell ⟨g, t, none⟩ (.int .u8 (ub.toNat : Int))) := (Keeps.refl _ _).setCell _ _ (.inr rfl)
  have hmem : ((.slice (some ⟨g, 0, none⟩) 512 c, x) : Value × List UInt8) ∈ Lo.set m (.slice (some ⟨g, 0, none⟩) 512 c, x) := List.mem_iff_getElem.2 ⟨m, by simpa using hm, by simp⟩
  have hrow := h.rowL _ hmem
  have hsep := h.sepL _ hmem g rfl
  have hmap : (Lo.set m (.slice (some ⟨g, 0, none⟩) 512 c, x.set t ub)).map Prod.fst = (Lo.set m (.slice (some ⟨g, 0, none⟩) 512 c, x)).map Prod.fst := by rw [List.map_set, List.map_set]
  have hcase : ∀ p ∈ Lo.set m ((.slice (some ⟨g, 0, none⟩) 512 c, x.set t ub) : Value × List UInt8), p = (.slice (some ⟨g, 0, none⟩) 512 c, x.set t ub) ∨ (p ∈ Lo.set m ((.slice (some ⟨g, 0, none⟩) 512 c, x) : Value × List UInt8) ∧ p.1.ownBlock ≠ some g) := by
    intro p hp
    obtain ⟨j, hj, rfl⟩ := List.mem_iff_getElem.1 hp
    rw [List.length_set] at hj
    rw [List.getElem_set]
    by_cases e : m = j
    · left; rw [if_pos e]
    · right
      rw [if_neg e]
      refine ⟨List.mem_iff_getElem.2 ⟨j, by simpa using hj, ?_⟩, hdist j hj (fun q => e q.symm)⟩
      rw [List.getElem_set, if_neg e]
  refine ⟨⟨h.obj.keep hk (fun e => hsep.1 e.symm), ?_, World.ownsRow_nil _ _ _ _, fun p hp => ?_, fun o ho => by simp at ho, h.nl, h.no, h.nx, fun p hp => ?_, fun o ho => by simp at ho, by have := h.few; rw [List.length_set] at this ⊢; exact this⟩, hk⟩
  · rw [hmap, List.length_set]
    have := own_keeps hk h.las (fun j e e2 => hsep.2.1 (by rw [← e2]; exact e))
    rw [List.length_set] at this
    exact this
  · rcases hcase p hp with rfl | ⟨h1, h2⟩
    · exact ⟨own_set8 ub hrow.1 ht rfl, by rw [List.length_set]; exact hrow.2⟩
    · exact (h.rowL p h1).keep hk (fun j e e2 => h2 (by rw [e, e2]))
  · rcases hcase p hp with rfl | ⟨h1, h2⟩
    · exact fun j e => h.sepL _ hmem j e
    · exact h.sepL p h1

/-- The disk that a Crash builds. -/
structure OutI (w wr : World) (E : Nat) (lv : Value) (Lo : List (Value × List UInt8)) : Prop where
  ref : RefAt wr E lv (.slice none 0 0) Lo [] (-1) false
  same : Same w wr
  lvE : ∀ k, lv.ownBlock = some k → w.heap.size ≤ k
  rows : ∀ j (hj : j < Lo.length) k, Lo[j].1.ownBlock = some k → w.heap.size ≤ k
  dist : ∀ i j (hi : i < Lo.length) (hj : j < Lo.length), i ≠ j → ∀ k, Lo[i].1.ownBlock = some k → Lo[j].1.ownBlock ≠ some k
theorem OutI.push {w wr w2 : World} {E : Nat} {lv : Value} {L : List (Value × List UInt8)} (h : OutI w wr E lv L) (hE : w.heap.size ≤ E) (hk : Keeps (fun k => lv.ownBlock = some k) wr w2) {g cp : Nat} {row : Value} {B : List UInt8}
    (hrow : w2.ownsRow 0 31 1 (.slice (some ⟨g, 0, none⟩) (L.length + 1) cp) (L.length + 1) (L.map Prod.fst ++ [row])) (hat : lv.ownBlock = some g ∨ wr.heap.size ≤ g) (hro : w2.ownsRow wr.heap.size 5 1 row 512 (u8s B)) (hB : B.length = 512) (hrg : ∀ k, row.ownBlock = some k → k ≠ g) (hfew : L.length < 4096) :
    OutI w (w2.setCell ⟨E, 0, none⟩ (.slice (some ⟨g, 0, none⟩) (L.length + 1) cp)) E (.slice (some ⟨g, 0, none⟩) (L.length + 1) cp) (L ++ [(row, B)]) := by
  obtain ⟨h1, h2⟩ := h.ref.push hk hrow hat hro hB hrg hfew
  have hsz := h.same.size
  refine ⟨h1, h.same.trans h2 (fun j hj e => ?_), fun k e => ?_, fun j hj k e => ?_, fun i j hi hj hij k e e2 => ?_⟩
  · rcases e with e | e
    · have := h.lvE j e; omega
    · omega
  · obtain rfl : g = k := by cases e; rfl
    rcases hat with hat | hat
    · exact h.lvE g hat
    · omega
  · by_cases hjl : j < L.length
    · rw [List.getElem_append_left hjl] at e
      exact h.rows j hjl k e
    · rw [List.getElem_append_right (by omega)] at e
      simp only [List.getElem_singleton] at e
      have := (hro.lt k e).1; omega
  · have old : ∀ q (hq : q < L.length), L[q].1.ownBlock = some k → k < wr.heap.size := fun q hq e => ((h.ref.rowL _ (List.getElem_mem hq)).1.lt k e).2
    rw [List.length_append] at hi hj
    simp only [List.length_singleton] at hi hj
    by_cases hil : i < L.length
    · rw [List.getElem_append_left hil] at e
      by_cases hjl : j < L.length
      · rw [List.getElem_append_left hjl] at e2
        exact h.dist i j hil hjl hij k e e2
      · rw [List.getElem_append_right (by omega)] at e2
        simp only [List.getElem_singleton] at e2
        have := (hro.lt k e2).1
        have := old i hil e; omega
    · rw [List.getElem_append_right (by omega)] at e
      simp only [List.getElem_singleton] at e
      by_cases hjl : j < L.length
      · rw [List.getElem_append_left hjl] at e2
        have := (hro.lt k e).1
        have := old j hjl e2; omega
      · omega

theorem OutI.keep {w wr w2 : World} {E : Nat} {lv : Value} {L : List (Value × List UInt8)} (h : OutI w wr E lv L) (k : Same wr w2) : OutI w w2 E lv L := ⟨h.ref.keep k (fun _ _ e => e), h.same.trans k (fun _ _ e => e), h.lvE, h.rows, h.dist⟩
theorem set_fst {L : List (Value × List UInt8)} {m : Nat} (hm : m < L.length) (y : List UInt8) {j : Nat} (hj : j < (L.set m (L[m].1, y)).length) : (L.set m (L[m].1, y))[j].1 = (L[j]'(by rw [List.length_set] at hj; exact hj)).1 := by
  rw [List.getElem_set]
  split
  · next e => subst e; rfl
  · rfl
theorem OutI.set {w wr w2 : World} {E : Nat} {lv : Value} {L : List (Value × List UInt8)} (h : OutI w wr E lv L) (m : Nat) (hm : m < L.length) (y : List UInt8) (hr : RefAt w2 E lv (.slice none 0 0) (L.set m (L[m].1, y)) [] (-1) false) (hs : Same w w2) : OutI w w2 E lv (L.set m (L[m].1, y)) :=
  ⟨hr, hs, h.lvE, fun j hj k e => by rw [set_fst hm] at e; exact h.rows j _ k e, fun i j hi hj hij k e e2 => by rw [set_fst hm] at e e2; exact h.dist i j _ _ hij k e e2⟩
theorem store_rw (w : World) (x : Nat × (Value × List UInt8)) (hx : x.2.1.oneCell' = true) : ∃ w3, (storeCells ⟨w.heap.size, 0, none⟩ (ocells x)).run Try.prog (w.alloc (.cells #[.int .i64 0, .slice none 0 0] 66)) = .ok () w3 ∧
    w3.heap[w.heap.size]? = some (.cells (ocells x).toArray 66 (0, 0)) ∧ Same w w3 := by
  have h := run_storeCells_from (P := Try.prog) w.heap.size 66 (ocells x) 0 #[.int .i64 0, .slice none 0 0] (w.alloc (.cells #[.int .i64 0, .slice none 0 0] 66)) (heap_alloc_new w _) (by rfl) (by
    intro v hv
    simp only [ocells, List.mem_cons, List.not_mem_nil, or_false] at hv
    rcases hv with rfl | rfl
    · rfl
    · exact hx)
  refine ⟨_, h, ?_, ((Keeps.refl _ _).alloc _).setRow _ _ (.inl (Nat.le_refl _))⟩
  exact setRow_heap _ _ _ _ _ (0, 0) (heap_alloc_new w _)
theorem sizeRW (x : Nat × (Value × List UInt8)) : (Try.prog.info? 66).map (·.size) = some (ocells x).length := by
  have : (Try.prog.info? 66).map (·.size) = some 2 := by kernel_rfl
  rw [this]; rfl
theorem suffered_zero (o n : List UInt8) : suffered o n 0 = o := by unfold suffered; rw [if_neg (by decide), if_neg (by decide), if_neg (by decide)]

set_option maxRecDepth 100000 in
set_option maxHeartbeats 12800000 in
theorem rk_crash (w : World) (F : Nat → Prop) (M : Nat) (s : DSt) (fo : Option Addr) (n fc : Nat) (fs : List Int) (h : Rk F w M s) (hn : n = fs.length) (hf : Ints w (.slice fo n fc) fs) (hb : ∀ z ∈ fs, -9223372036854775808 ≤ z ∧ z ≤ 9223372036854775807) (hO : s.O.length ≤ 100000) :
    Calls Try.prog 19 #[.pointer (some ⟨M, 0, none⟩), .slice fo n fc] w fun e w' => ∃ E F2, e = .returned (.pointer (some ⟨E, 0, none⟩)) ∧ Rk F2 w' E (s.crashed fs) ∧ Same w w' ∧ ∀ k, F2 k → w.heap.size ≤ k := by
  obtain ⟨iu, hiu, hu0, hu1, hu2⟩ := info_parts Try.infoB8
  obtain ⟨lvs, ovs, L, O, h0, _, e1, e2⟩ := h
  obtain ⟨lo, lc, hlv, hlg⟩ := own_form h0.las
  obtain ⟨oo, oc, hov, hoc, hof⟩ := h0.opn.form
  have hOl : O.length ≤ 100000 := by rw [← e2, List.length_map] at hO; exact hO
  obtain ⟨N, hN⟩ : ∃ N, L.length = N := ⟨_, rfl⟩
  have hN2 : N ≤ 4096 := by have := h0.few; omega
  rw [hN] at hlv hlg
  subst hlv
  subst hov
  have H0 := Lib.hid h0
  have HN := Lib.hid hN
  have HE1 := Lib.hid e1
  have HE2 := Lib.hid e2
  have HLG := Lib.hid hlg
  have HFN := Lib.hid hn
  have HFI := Lib.hid hf
  have HFB := Lib.hid hb
  have HCS : Hid (∀ w', Same w w' → w'.cell? ⟨M, 0, none⟩ = some (.slice lo N lc) ∧ w'.cell? ⟨M, 1, none⟩ = some (.slice oo O.length oc)) := Lib.hid (fun w' k => ⟨(h0.obj.keep k (fun e => e)).cell (i := 0) rfl, (h0.obj.keep k (fun e => e)).cell (i := 1) rfl⟩)
  obtain ⟨E, hE⟩ : ∃ E, w.heap.size = E := ⟨_, rfl⟩
  obtain ⟨w0, hw0⟩ : ∃ w0, w.alloc (.cells #[.slice none 0 0, .slice none 0 0, .int .i64 (-1), .bool false] 62) = w0 := ⟨_, rfl⟩
  have hb0 : Whole w0 E 62 [.slice none 0 0, .slice none 0 0, .int .i64 (-1), .bool false] := by rw [← hw0, ← hE]; exact heap_alloc_new w _
  have HR0 : Hid (OutI w w0 E (.slice none 0 0) []) := Lib.hid ⟨⟨hb0, World.ownsRow_nil _ _ _ _, World.ownsRow_nil _ _ _ _, by simp, by simp, by simp [Value.ownBlock], by simp [Value.ownBlock], by simp [Value.ownBlock], by simp, by simp, by simp⟩, by rw [← hw0]; exact (Keeps.refl _ _).alloc _, by simp [Value.ownBlock], fun j hj => by simp at hj, fun i j hi => by simp at hi⟩
  have HW0 := Lib.hid hw0
  have HEE := Lib.hid hE
  clear hb0 hw0 h0 e1 e2 hlg hn hf hb hO hN
  go_enter Try.func19, Try.ntmps19
  go_wp2_with fail
  rw [HW0.out]
  clear hE
  go_loopw [6] (fun i wr => ∃ (j : Nat) (lv : Value) (Lo : List (Value × List UInt8)), j ≤ N ∧ i = .int .i64 j ∧ OutI w wr E lv Lo ∧ Lo.map Prod.snd = (L.map Prod.snd).take j) (fun i _ => N - (intOf i).toNat)
  case atStart => exact ⟨0, .slice none 0 0, [], by omega, rfl, HR0.out, by simp⟩
  case round =>
    obtain ⟨j, lv, Lo, hj, rfl, hr, hm⟩ := hrel
    have HO := Lib.hid hr
    have HM := Lib.hid hm
    have hLj : Lo.length = j := by have := congrArg List.length hm; rw [List.length_map, List.length_take, List.length_map] at this; have := HN.out; omega
    have HLJ := Lib.hid hLj
    have cs0 := (HCS.out wr hr.same).1
    clear hr hm hLj
    by_cases hlt : j < N
    · have hlt2 : (j : Int) < (N : Int) := by omega
      have HJI := Lib.hid hlt2
      obtain ⟨gl, rfl⟩ := HLG.out (by omega)
      have hjL : j < L.length := by have := HN.out; omega
      have hrw := H0.out.rowL _ (List.getElem_mem hjL)
      obtain ⟨gs, cs, hgs⟩ := hrw.slice
      obtain ⟨B, hBB⟩ : ∃ B, L[j].2 = B := ⟨_, rfl⟩
      have HBL : Hid (B.length = 512) := Lib.hid (by rw [← hBB]; exact hrw.2)
      have HLL : Hid (Lo.length ≤ 100000) := Lib.hid (by have := HLJ.out; omega)
      have HR : Hid (RefAt wr E lv (.slice none 0 0) Lo [] (-1) false) := Lib.hid HO.out.ref
      have HLO : Hid (∀ k, lv.ownBlock = some k → k < wr.heap.size) := Lib.hid (fun k e => (HR.out.las.lt k e).2)
      have HSW : Hid (∀ w', Keeps (fun k => lv.ownBlock = some k) wr w' → Same w w') := Lib.hid (fun w' k => HO.out.same.trans k (fun q hq e => by have := HO.out.lvE q e; omega))
      have HC0 : Hid (∀ w', Keeps (fun k => lv.ownBlock = some k) wr w' → w'.cell? ⟨E, 0, none⟩ = some lv) := Lib.hid (fun w' k => (HR.out.obj.keep k HR.out.nl).cell (i := 0) rfl)
      have HCT : Hid (∀ w', Keeps (fun k => lv.ownBlock = some k) wr w' → w'.cell? ⟨M, 0, none⟩ = some (.slice (some ⟨gl, 0, none⟩) N lc)) := Lib.hid (fun w' k => (HCS.out w' (HSW.out w' k)).1)
      have HCR : Hid (∀ w', Keeps (fun k => lv.ownBlock = some k) wr w' → w'.cell? ⟨gl, j, none⟩ = some (.slice (some ⟨gs, 0, none⟩) 512 cs)) := Lib.hid (fun w' k => by
        have h := (own_keeps (HSW.out w' k) H0.out.las (fun _ _ e => e)).cells (g := gl) rfl j L[j].1 (by simp [hjL])
        have hadd : (⟨gl, 0, none⟩ : Addr).add j = ⟨gl, j, none⟩ := by unfold Addr.add; split <;> simp_all
        rw [hadd, hgs] at h
        exact h)
      have HBY : Hid (∀ w', Keeps (fun k => lv.ownBlock = some k) wr w' → Bytes w' (.slice (some ⟨gs, 0, none⟩) 512 cs) B) := Lib.hid (fun w' k => by
        have h := (hrw.keep (HSW.out w' k) (fun _ _ e => e)).1
        rw [hgs, hBB] at h
        have h2 : w'.ownsRow 0 5 1 (.slice (some ⟨gs, 0, none⟩) 512 cs) B.length (u8s B) := by rw [HBL.out]; exact h
        have h3 := Bytes.of_own h2
        exact h3)
      have HTK : Hid ((Lo ++ [((.slice none 0 0 : Value), B)]).map Prod.snd = (L.map Prod.snd).take (j + 1)) := Lib.hid (by
        rw [List.map_append, HM.out, List.take_succ_eq_append_getElem (by rw [List.length_map]; exact hjL), List.getElem_map, hBB]; rfl)
      clear hrw hgs hBB hjL
      go_wp2_with fail
      refine wp_region_hand [[], [], [1], [2], [3], [], [], [6], [7], [8], [], [9, 10], [11], [5, 12], [13], [4, 14, 13], [0, 0, 1, 2, 3, 4, 5, 6, 7, 8, 9, 10, 11, 12, 13, 14, 15], [16, 0, 1, 2, 3, 4, 5, 6, 7, 8, 9, 10, 11, 12, 13, 14, 15], [17, 15, 15, 0, 1, 2, 3, 4, 5, 6, 7, 8, 9, 10, 11, 12, 13, 14, 15]]
        [some 26, some 27, some 28, some 29, some 30, some 31, some 32, some 33, some 34, some 35, some 36, some 37, some 38, some 39, some 40, some 41, some 42, some 43, none]
        [.is (.pointer (some ⟨E, 0, none⟩)), .is (.pointer (some ⟨E, 0, none⟩)), .is (.pointer (some ⟨E, 0, none⟩)), .is (.pointer (some ⟨E, 0, none⟩)), .is (lv), .ex EmpP EmpP.keep, .is (.pointer (some ⟨M, 0, none⟩)), .is (.pointer (some ⟨M, 0, none⟩)), .is (.pointer (some ⟨M, 0, none⟩)), .is (.slice (some ⟨gl, 0, none⟩) N lc), .is (.int .i64 (j : Nat)), .is (.pointer (some ⟨gl, j, none⟩)), .is (.slice (some ⟨gs, 0, none⟩) 512 cs), .ex (OwnP B) OwnP.keep, .ex (RLitP B) RLitP.keep]
        (fun k => lv.ownBlock = some k) [15] (RlE lv Lo B wr.heap.size) 5 _ _ 118 16 19 (by kernel_rfl) (by rfl) (by rfl) (by omega) (by kernel_rfl) (by kernel_rfl) (by decide) (by decide) HLO.out HR.out.las RlE.same ?_ ?_
      · refine ⟨?_, ?_, ?_, ?_, ?_, ?_, ?_, ?_, ?_, ?_, ?_, ?_, ?_, ?_, ?_, ?_, trivial⟩
        · intro a w' K hk hdep hfr hK
          have f := hfr 5 (by decide)
          exact plan_do (by rfl) (plan_yield (i := 0) (V := fun _ _ v => v = (.pointer (some ⟨E, 0, none⟩) : Value)) (.pointer (some ⟨E, 0, none⟩)) (by go_simp) rfl hK)
        · intro a w' K hk hdep hfr hK
          have f := hfr 5 (by decide)
          exact plan_do (by rfl) (plan_yield (i := 1) (V := fun _ _ v => v = (.pointer (some ⟨E, 0, none⟩) : Value)) (.pointer (some ⟨E, 0, none⟩)) (by go_simp) rfl hK)
        · intro a w' K hk hdep hfr hK
          have e27 : a.tmps[27]?.getD undef = (.pointer (some ⟨E, 0, none⟩)) := hdep 1 (by decide) 27 rfl
          exact plan_do (by rfl) (plan_yield (i := 2) (V := fun _ _ v => v = (.pointer (some ⟨E, 0, none⟩) : Value)) (.pointer (some ⟨E, 0, none⟩)) (by go_simp) rfl hK)
        · intro a w' K hk hdep hfr hK
          have e28 : a.tmps[28]?.getD undef = (.pointer (some ⟨E, 0, none⟩)) := hdep 2 (by decide) 28 rfl
          exact plan_do (by rfl) (plan_yield (i := 3) (V := fun _ _ v => v = (.pointer (some ⟨E, 0, none⟩) : Value)) (.pointer (some ⟨E, 0, none⟩)) (by go_simp) rfl hK)
        · intro a w' K hk hdep hfr hK
          have e29 : a.tmps[29]?.getD undef = (.pointer (some ⟨E, 0, none⟩)) := hdep 3 (by decide) 29 rfl
          have cl := HC0.out w' hk
          exact plan_do (by rfl) (plan_yield (i := 4) (V := fun _ _ v => v = (lv : Value)) (lv) (by go_simp) rfl hK)
        · intro a w' K hk hdep hfr hK
          exact plan_do (by rfl) (plan_go (.slice (some ⟨w'.heap.size, 0, none⟩) 0 0) (w'.alloc (.cells #[] 5)) (by go_simp) (hK _ _ ((Keeps.refl _ _).alloc _) ⟨w'.heap.size, rfl⟩))
        · intro a w' K hk hdep hfr hK
          have f := hfr 0 (by decide)
          exact plan_do (by rfl) (plan_yield (i := 6) (V := fun _ _ v => v = (.pointer (some ⟨M, 0, none⟩) : Value)) (.pointer (some ⟨M, 0, none⟩)) (by go_simp) rfl hK)
        · intro a w' K hk hdep hfr hK
          have e32 : a.tmps[32]?.getD undef = (.pointer (some ⟨M, 0, none⟩)) := hdep 6 (by decide) 32 rfl
          exact plan_do (by rfl) (plan_yield (i := 7) (V := fun _ _ v => v = (.pointer (some ⟨M, 0, none⟩) : Value)) (.pointer (some ⟨M, 0, none⟩)) (by go_simp) rfl hK)
        · intro a w' K hk hdep hfr hK
          have e33 : a.tmps[33]?.getD undef = (.pointer (some ⟨M, 0, none⟩)) := hdep 7 (by decide) 33 rfl
          exact plan_do (by rfl) (plan_yield (i := 8) (V := fun _ _ v => v = (.pointer (some ⟨M, 0, none⟩) : Value)) (.pointer (some ⟨M, 0, none⟩)) (by go_simp) rfl hK)
        · intro a w' K hk hdep hfr hK
          have e34 : a.tmps[34]?.getD undef = (.pointer (some ⟨M, 0, none⟩)) := hdep 8 (by decide) 34 rfl
          have cl := HCT.out w' hk
          exact plan_do (by rfl) (plan_yield (i := 9) (V := fun _ _ v => v = (.slice (some ⟨gl, 0, none⟩) N lc : Value)) (.slice (some ⟨gl, 0, none⟩) N lc) (by go_simp) rfl hK)
        · intro a w' K hk hdep hfr hK
          have f := hfr 6 (by decide)
          exact plan_do (by rfl) (plan_yield (i := 10) (V := fun _ _ v => v = (.int .i64 (j : Nat) : Value)) (.int .i64 (j : Nat)) (by go_simp) rfl hK)
        · intro a w' K hk hdep hfr hK
          have e35 : a.tmps[35]?.getD undef = (.slice (some ⟨gl, 0, none⟩) N lc) := hdep 9 (by decide) 35 rfl
          have e36 : a.tmps[36]?.getD undef = (.int .i64 (j : Nat)) := hdep 10 (by decide) 36 rfl
          have hj := HJI.out
          exact plan_do (by rfl) (plan_yield (i := 11) (V := fun _ _ v => v = (.pointer (some ⟨gl, j, none⟩) : Value)) (.pointer (some ⟨gl, j, none⟩)) (by go_simp) rfl hK)
        · intro a w' K hk hdep hfr hK
          have e37 : a.tmps[37]?.getD undef = (.pointer (some ⟨gl, j, none⟩)) := hdep 11 (by decide) 37 rfl
          have cl := HCR.out w' hk
          exact plan_do (by rfl) (plan_yield (i := 12) (V := fun _ _ v => v = (.slice (some ⟨gs, 0, none⟩) 512 cs : Value)) (.slice (some ⟨gs, 0, none⟩) 512 cs) (by go_simp) rfl hK)
        · intro a w' K hk hdep hfr hK
          have e38 : a.tmps[38]?.getD undef = (.slice (some ⟨gs, 0, none⟩) 512 cs) := hdep 12 (by decide) 38 rfl
          have e31 : EmpP wr.heap.size w' (a.tmps[31]?.getD undef) := hdep 5 (by decide) 31 rfl
          obtain ⟨g0, e31⟩ := e31
          obtain ⟨gr, cr, w2, hrun, hs2, ho⟩ := run_append_fresh (P := Try.prog) w' 31 31 5 iu Try.underlying31 hiu hu0 hu1 hu2 ⟨g0, 0, none⟩ _ B (HBY.out w' hk) (by have := HBL.out; omega) (by have := HBL.out; omega)
          rw [HBL.out] at hrun ho
          refine step_append_run (by rfl) (.tmp 31) (.tmp 38) 31 (by rfl) (.slice (some ⟨g0, 0, none⟩) 0 0) (.slice (some ⟨gs, 0, none⟩) 512 cs) _ w2 ((eval_tmp _ _).trans e31) ((eval_tmp _ _).trans e38) hrun ?_
          exact hK _ _ hs2 ⟨gr, cr, rfl, own_base ho hk.size⟩
        · intro a w' K hk hdep hfr hK
          obtain ⟨g, cp, e39, ho⟩ : ∃ g cap, a.tmps[39]?.getD undef = .slice (some ⟨g, 0, none⟩) 512 cap ∧ w'.ownsRow wr.heap.size 5 1 (a.tmps[39]?.getD undef) 512 (u8s B) := hdep 13 (by decide) 39 rfl
          rw [e39] at ho
          exact plan_do (by rfl) (plan_go (.slice (some ⟨w'.heap.size, 0, none⟩) 1 1) (w'.alloc (.cells #[.slice (some ⟨g, 0, none⟩) 512 cp] 31)) (by go_simp) (hK _ _ ((Keeps.refl _ _).alloc _) ⟨w'.heap.size, g, cp, rfl, hk.size, heap_alloc_new w' _, own_keeps (S := fun _ => False) ((Keeps.refl _ _).alloc _) ho (fun _ _ e => e)⟩))
        · intro a w' K hk hdep hfr ev hE hev hK
          have e30 : a.tmps[30]?.getD undef = (lv) := hdep 4 (by decide) 30 rfl
          obtain ⟨G, gr, cr, eL, hG, hlit, ho⟩ : ∃ G g cap, a.tmps[40]?.getD undef = .slice (some ⟨G, 0, none⟩) 1 1 ∧ wr.heap.size ≤ G ∧ w'.heap[G]? = some (.cells #[.slice (some ⟨g, 0, none⟩) 512 cap] 31 (0, 0)) ∧ w'.ownsRow wr.heap.size 5 1 (.slice (some ⟨g, 0, none⟩) 512 cap) 512 (u8s B) := hdep 14 (by decide) 40 rfl
          obtain ⟨g, cp, w2, hrun, hown, hk2, hat⟩ := lies46 w' lv Lo.length (Lo.map Prod.fst) hE (.slice (some ⟨gr, 0, none⟩) 512 cr) G (by rw [cell_of_row _ _ _ _ _ _ hlit]; rfl) rfl HLL.out
          refine step_append_run (by rfl) (.tmp 30) (.tmp 40) 46 (by rfl) lv (.slice (some ⟨G, 0, none⟩) 1 1) _ w2 ((eval_tmp _ _).trans e30) ((eval_tmp _ _).trans eL) hrun ?_
          refine hK _ _ hk2 ⟨g, cp, .slice (some ⟨gr, 0, none⟩) 512 cr, rfl, hown, ?_, own_keeps hk2 ho (fun q e hs => by have := (ho.lt q e).1; have := HLO.out _ hs; omega), fun k e => ?_⟩ trivial
          · rcases hat with hat | hat
            · exact .inl hat
            · right; have := hk.size; omega
          · have hl := ho.lt k e
            rcases hat with hat | hat
            · have := HLO.out _ hat; omega
            · omega
      intro a w2 hk hdef hsz hv hfr ev hE1 hev
      have e41 := hev 0 41 rfl rfl
      have e26 : a.tmps[26]?.getD undef = .pointer (some ⟨E, 0, none⟩) := hv 0 26 (by omega) rfl
      obtain ⟨g, cp, row, rfl, hrow, hat, hro, hrg⟩ := hE1
      have he := act_eq a _ [some 26, some 27, some 28, some 29, some 30, some 31, some 32, some 33, some 34, some 35, some 36, some 37, some 38, some 39, some 40, some 41] 118 rfl hsz hdef hfr (fun d => a.tmps[d]?.getD undef) (fun _ _ => rfl)
      obtain ⟨v27, h27⟩ : ∃ v, a.tmps[27]?.getD undef = v := ⟨_, rfl⟩
      obtain ⟨v28, h28⟩ : ∃ v, a.tmps[28]?.getD undef = v := ⟨_, rfl⟩
      obtain ⟨v29, h29⟩ : ∃ v, a.tmps[29]?.getD undef = v := ⟨_, rfl⟩
      obtain ⟨v30, h30⟩ : ∃ v, a.tmps[30]?.getD undef = v := ⟨_, rfl⟩
      obtain ⟨v31, h31⟩ : ∃ v, a.tmps[31]?.getD undef = v := ⟨_, rfl⟩
      obtain ⟨v32, h32⟩ : ∃ v, a.tmps[32]?.getD undef = v := ⟨_, rfl⟩
      obtain ⟨v33, h33⟩ : ∃ v, a.tmps[33]?.getD undef = v := ⟨_, rfl⟩
      obtain ⟨v34, h34⟩ : ∃ v, a.tmps[34]?.getD undef = v := ⟨_, rfl⟩
      obtain ⟨v35, h35⟩ : ∃ v, a.tmps[35]?.getD undef = v := ⟨_, rfl⟩
      obtain ⟨v36, h36⟩ : ∃ v, a.tmps[36]?.getD undef = v := ⟨_, rfl⟩
      obtain ⟨v37, h37⟩ : ∃ v, a.tmps[37]?.getD undef = v := ⟨_, rfl⟩
      obtain ⟨v38, h38⟩ : ∃ v, a.tmps[38]?.getD undef = v := ⟨_, rfl⟩
      obtain ⟨v39, h39⟩ : ∃ v, a.tmps[39]?.getD undef = v := ⟨_, rfl⟩
      obtain ⟨v40, h40⟩ : ∃ v, a.tmps[40]?.getD undef = v := ⟨_, rfl⟩
      simp only [putAll, h27, h28, h29, h30, h31, h32, h33, h34, h35, h36, h37, h38, h39, h40, e26, e41, List.setIfInBounds_toArray, List.set_cons_zero, List.set_cons_succ] at he
      clear h27 h28 h29 h30 h31 h32 h33 h34 h35 h36 h37 h38 h39 h40 e26 e41 hdef hsz hv hfr hev
      subst he
      have hp := HO.out.push (by have := HEE.out; omega) hk hrow hat hro HBL.out hrg (by have := HLJ.out; omega)
      have hob := HR.out.obj.keep hk HR.out.nl
      have c0 := hob.cell (i := 0) rfl
      have g0 := hob.free 0
      have HP := Lib.hid hp
      have HM2 : Hid ((Lo ++ [(row, B)]).map Prod.snd = (L.map Prod.snd).take (j + 1)) := Lib.hid (by rw [← HTK.out, List.map_append, List.map_append]; rfl)
      clear hk hrow hat hro hrg hp hob
      go_wp2
      go_roundw
      case rel => exact ⟨j + 1, _, _, by omega, by go_num, HP.out, HM2.out⟩
      case measure => simp [intOf]; omega
    have hlt2 : ¬ (j : Int) < (N : Int) := by omega
    have HFULL : Hid (Lo.map Prod.snd = s.L) := Lib.hid (by rw [HM.out, ← HE1.out, List.take_of_length_le (by rw [List.length_map]; have := HN.out; omega)])
    have HLEN : Hid (Lo.length = N) := Lib.hid (by have := HLJ.out; omega)
    go_wp2_with fail
    go_loopw [7] (fun i wr => ∃ (k : Nat) (lv : Value) (Lo : List (Value × List UInt8)), k ≤ O.length ∧ i = .int .i64 k ∧ OutI w wr E lv Lo ∧ Lo.length = N ∧ Lo.map Prod.snd = crashedTo s.L s.O fs k) (fun i _ => O.length - (intOf i).toNat)
    case atStart => exact ⟨0, lv, Lo, by omega, rfl, HO.out, HLEN.out, by rw [HFULL.out]; rfl⟩
    case round =>
      clear HO HM HLJ HFULL HLEN cs0 hlt2 hlt
      obtain ⟨k, lv, Lo, hk, rfl, hr, hln, hm⟩ := hrel
      have HO := Lib.hid hr
      have HLN := Lib.hid hln
      have HM := Lib.hid hm
      have cs1 := (HCS.out wr hr.same).2
      clear hr hln hm
      by_cases hlt : k < O.length
      · have hlt2 : (k : Int) < (O.length : Int) := by omega
        obtain ⟨go, oc', hov, hra⟩ := H0.out.opn.at (fun x _ => ocells_length x) k hlt
        simp only [Value.slice.injEq] at hov
        obtain ⟨rfl, _, rfl⟩ := hov
        have hxo := H0.out.rowO _ (List.getElem_mem hlt)
        have hso : s.O.length = O.length := by rw [← HE2.out, List.length_map]
        have hsk : ∀ (h : k < s.O.length), s.O[k] = (O[k].1, O[k].2.2) := fun h => by
          have h2 : s.O[k]? = some (O[k].1, O[k].2.2) := by rw [← HE2.out]; simp [hlt]
          rw [List.getElem?_eq_getElem h] at h2
          exact Option.some.inj h2
        have hsn := crashedTo_snoc s.L s.O fs k (by omega)
        rw [hsk (by omega)] at hsn
        have hmore := crashedTo_more s.L s.O fs k
        have HLS := Lib.hid (sizeRW O[k])
        generalize O[k] = x at *
        obtain ⟨m, nv, nb⟩ := x
        obtain ⟨gn, cn, hgn⟩ := hxo.1.slice
        simp only at hgn hsn
        subst hgn
        have HRW := Lib.hid hra
        have HNR := Lib.hid hxo.1.1
        have HNBL : Hid (nb.length = 512) := Lib.hid hxo.1.2
        have hmL : m < Lo.length := by have := HLN.out; have := HN.out; have := hxo.2; omega
        have HMS := Lib.hid hmL
        have HMN : Hid ((m : Int) < (N : Int)) := Lib.hid (by have := HLN.out; omega)
        have HXC : Hid ((.slice (some ⟨gn, 0, none⟩) 512 cn : Value).oneCell' = true) := Lib.hid rfl
        obtain ⟨x, hx⟩ : ∃ x : Nat × (Value × List UInt8), (m, (.slice (some ⟨gn, 0, none⟩) 512 cn, nb)) = x := ⟨_, rfl⟩
        have HX1 : Hid (ocells x = [.int .i64 (m : Int), .slice (some ⟨gn, 0, none⟩) 512 cn]) := Lib.hid (by rw [← hx]; rfl)
        have HXC : Hid (x.2.1.oneCell' = true) := Lib.hid (by rw [← hx]; rfl)
        rw [hx] at HRW HLS
        obtain ⟨old, hold⟩ : ∃ old, Lo[m].2 = old := ⟨_, rfl⟩
        have hrl := HO.out.ref.rowL _ (List.getElem_mem hmL)
        obtain ⟨gr, cr, hgr⟩ := hrl.slice
        have HOLD : Hid (old.length = 512) := Lib.hid (by rw [← hold]; exact hrl.2)
        have HLM := Lib.hid hgr
        have HSELF : Hid (Lo.set m (.slice (some ⟨gr, 0, none⟩) 512 cr, old) = Lo) := Lib.hid (by
          rw [← hgr, ← hold]
          exact List.set_getElem_self hmL)
        have HGM : Hid (∀ j (hj : j < Lo.length), j ≠ m → Lo[j].1.ownBlock ≠ some gr) := Lib.hid (fun j hj hjm e => HO.out.dist j m hj hmL hjm gr e (by rw [hgr]; rfl))
        have HGE : Hid (w.heap.size ≤ gr) := Lib.hid (HO.out.rows m hmL gr (by rw [hgr]; rfl))
        have hcg : (crashedTo s.L s.O fs k).getD m [] = old := by
          rw [← HM.out, List.getD_eq_getElem?_getD, List.getElem?_map, List.getElem?_eq_getElem hmL, ← hold]; rfl
        have hcm : (crashedTo s.L s.O fs k)[m]? = some old := by rw [← HM.out, List.getElem?_map, List.getElem?_eq_getElem hmL, ← hold]; rfl
        have HSA : Hid (∀ (hfl : k < fs.length), crashedTo s.L s.O fs (k + 1) = (crashedTo s.L s.O fs k).set m (suffered old nb fs[k])) := Lib.hid (fun hfl => by
          rw [hsn hfl]
          unfold fated
          simp only
          rw [hcg])
        have HSB : Hid (¬ k < fs.length → crashedTo s.L s.O fs (k + 1) = (crashedTo s.L s.O fs k).set m (suffered old nb 0)) := Lib.hid (fun hfl => by
          rw [hmore (by omega), suffered_zero]
          obtain ⟨h1, h2⟩ := List.getElem?_eq_some_iff.1 hcm
          rw [← h2, List.set_getElem_self])
        obtain ⟨ge, ce, hlvg, _⟩ := HO.out.ref.las.form (by omega)
        rw [HLN.out] at hlvg
        subst hlvg
        clear hra hxo hsk hsn hmore hx hold hrl hgr hcg hcm hso
        by_cases hfl : k < n
        · have hfl2 : (k : Int) < (n : Int) := by omega
          have hfs : k < fs.length := by have := HFN.out; omega
          obtain ⟨fa, rfl, hfc⟩ := (HFI.out.same HO.out.same).at hfs
          have hbz := HFB.out _ (List.getElem_mem hfs)
          have HSTEP := Lib.hid (HSA.out hfs)
          generalize fs[k] = zf at *
          have HZB := Lib.hid hbz
          obtain ⟨qf, hqf⟩ : ∃ qf, zf / 4 = qf := ⟨_, rfl⟩
          obtain ⟨f, hf4⟩ : ∃ f, zf % 4 = f := ⟨_, rfl⟩
          obtain ⟨nn, hn5⟩ : ∃ nn, qf % 513 = nn := ⟨_, rfl⟩
          have HQB : Hid (-9223372036854775808 ≤ qf ∧ qf ≤ 9223372036854775807) := Lib.hid (by omega)
          have HF0 : Hid (0 ≤ f ∧ f < 4) := Lib.hid (by omega)
          have HQ4 := Lib.hid hqf
          have HF4 := Lib.hid hf4
          have HN5 := Lib.hid hn5
          clear hbz hqf hf4 hn5
          go_wp2_with fail
          (refine (floor_ok zf 4 wr (by decide) (by decide) HZB.out).mono ?_); rintro e wa ⟨he, hka⟩
          rw [HQ4.out, HF4.out] at he
          subst he
          have HKA := Lib.hid hka
          clear hka
          go_wp2_with fail
          (refine (floor_ok qf 513 wa (by decide) (by decide) HQB.out).mono ?_); rintro e wb ⟨he, hkb⟩
          rw [HN5.out] at he
          subst he
          have HOB := Lib.hid ((HO.out.keep HKA.out).keep hkb)
          clear hkb
          obtain ⟨wc, hst, hbc, hkc⟩ := store_rw wb x HXC.out
          obtain ⟨B3, hB3⟩ : ∃ B3, wb.heap.size = B3 := ⟨_, rfl⟩
          have HBE : Hid (w.heap.size ≤ B3) := Lib.hid (by have := HOB.out.same.size; omega)
          have HRB : Hid (∀ j (hj : j < Lo.length), Lo[j].1.ownBlock ≠ some B3) := Lib.hid (fun j hj e => by have := ((HOB.out.ref.rowL _ (List.getElem_mem hj)).1.lt B3 e).2; omega)
          rw [hB3] at hst hbc
          have HOV0 : Hid (Whole wc B3 66 (ocells x)) := Lib.hid hbc
          have HOC := Lib.hid (HOB.out.keep hkc)
          have HRA : Hid (wb.rangeAt go (k * 2) (ocells x)) := Lib.hid (rangeAt_keep HRW.out HOB.out.same (fun _ e => e))
          have cs1 := (HCS.out wb HOB.out.same).2
          clear hbc hkc
          go_wp2_with (refine wpList_load_mid (by rfl) 66 _ (by rfl) go (k * 2) (by rfl) (ocells x) _ HRA.out Try.underlying66 rfl HLS.out ?_)
          clear hst cs1
          have HRT0 : Hid (RefAt wc E (.slice (some ⟨ge, 0, none⟩) N ce) (.slice none 0 0) (Lo.set m (.slice (some ⟨gr, 0, none⟩) 512 cr, sufK old nb f nn 0)) [] (-1) false) := Lib.hid (by
            rw [sufK_zero _ _ _ _ HOLD.out, HSELF.out]
            exact HOC.out.ref)
          have HSC := Lib.hid HOC.out.same
          go_loopw [14] (fun i wr => ∃ t : Nat, t ≤ 512 ∧ i = .int .i64 t ∧ RefAt wr E (.slice (some ⟨ge, 0, none⟩) N ce) (.slice none 0 0) (Lo.set m (.slice (some ⟨gr, 0, none⟩) 512 cr, sufK old nb f nn t)) [] (-1) false ∧ Same w wr ∧ Whole wr B3 66 (ocells x)) (fun i _ => 512 - (intOf i).toNat)
          case atStart => exact ⟨0, by omega, rfl, HRT0.out, HSC.out, HOV0.out⟩
          case round =>
            obtain ⟨t, ht, rfl, hrt, hst, hov⟩ := hrel
            have HRT := Lib.hid hrt
            have HST := Lib.hid hst
            have HOV := Lib.hid hov
            clear hrt hst hov
            by_cases htl : t < 512
            · have ht2 : (t : Int) < 512 := by omega
              have HTL := Lib.hid htl
              have HTI : Hid ((t : Int) < 512) := Lib.hid ht2
              have HGO := Lib.hid (HRT.out.rowL ((.slice (some ⟨gr, 0, none⟩) 512 cr, sufK old nb f nn t) : Value × List UInt8) (List.mem_iff_getElem.2 ⟨m, by rw [List.length_set]; exact HMS.out, by simp⟩)).1
              obtain ⟨ub, hub⟩ : ∃ ub, nb.getD t 0 = ub := ⟨_, rfl⟩
              have HNX := Lib.hid (sufK_hit old nb f nn t htl)
              have HNY := Lib.hid (sufK_miss old nb f nn t)
              rw [hub] at HNX
              have HCE : Hid (∀ w', Same wr w' → w'.cell? ⟨E, 0, none⟩ = some (.slice (some ⟨ge, 0, none⟩) N ce) ∧ w'.cell? ⟨B3, 0, none⟩ = some (.int .i64 (m : Nat)) ∧ w'.cell? ⟨ge, m, none⟩ = some (.slice (some ⟨gr, 0, none⟩) 512 cr) ∧ w'.cell? ⟨B3, 1, none⟩ = some (.slice (some ⟨gn, 0, none⟩) 512 cn) ∧ w'.cell? ⟨gn, t, none⟩ = some (.int .u8 (ub.toNat : Int))) := Lib.hid (fun w' kk => by
                have h1 := HRT.out.keep kk (fun _ _ e => e)
                have h2 := HOV.out.keep kk (fun e => e)
                have h3 := h1.las.cells (g := ge) rfl m (.slice (some ⟨gr, 0, none⟩) 512 cr) (by rw [List.map_set, List.getElem?_set_self (by rw [List.length_map]; exact HMS.out)])
                have hadd : (⟨ge, 0, none⟩ : Addr).add m = ⟨ge, m, none⟩ := by unfold Addr.add; split <;> simp_all
                rw [hadd] at h3
                have h4 := (own_cell (own_keeps (HST.out.trans kk (fun _ _ e => e)) HNR.out (fun _ _ e => e)) t htl).1
                rw [hub] at h4
                exact ⟨h1.obj.cell (i := 0) rfl, h2.cell (i := 0) (by rw [HX1.out]; rfl), h3, h2.cell (i := 1) (by rw [HX1.out]; rfl), h4⟩)
              clear hub
              rcases (show f = 0 ∨ f = 1 ∨ f = 2 ∨ f = 3 by have := HF0.out; omega) with hf0 | hf0 | hf0 | hf0
              · subst hf0
                have HCD : Hid (¬ sufC 0 nn t) := Lib.hid (by unfold sufC; omega)
                have hmr := HRT.out
                rw [HNY.out HCD.out] at hmr
                have HMR := Lib.hid hmr
                clear hmr
                go_wp2
                go_roundw
                case rel => exact ⟨t + 1, by omega, by go_num, HMR.out, HST.out, HOV.out⟩
                case measure => simp [intOf]; omega
              · subst hf0
                have HCD : Hid (sufC 1 nn t) := Lib.hid (by unfold sufC; omega)
                go_wp2_with fail
                refine wp_region_tail [[], [0], [1], [2], [], [4], [3, 5], [6], [], [], [9], [], [10, 11], [12], [7, 8, 0, 1, 2, 3, 4, 5, 6, 7, 8, 9, 10, 11, 12, 13], [14, 13, 0, 1, 2, 3, 4, 5, 6, 7, 8, 9, 10, 11, 12, 13]]
                  [some 102, some 103, some 104, some 105, some 106, some 107, some 108, some 109, some 110, some 111, some 112, some 113, some 114, some 115, some 116, none]
                  [.is (.pointer (some ⟨E, 0, none⟩)), .is (.pointer (some ⟨E, 0, none⟩)), .is (.pointer (some ⟨E, 0, none⟩)), .is (.slice (some ⟨ge, 0, none⟩) N ce), .is (.pointer (some ⟨B3, 0, none⟩)), .is (.int .i64 (m : Nat)), .is (.pointer (some ⟨ge, m, none⟩)), .is (.slice (some ⟨gr, 0, none⟩) 512 cr), .is (.int .i64 (t : Nat)), .is (.pointer (some ⟨B3, 1, none⟩)), .is (.slice (some ⟨gn, 0, none⟩) 512 cn), .is (.int .i64 (t : Nat)), .is (.pointer (some ⟨gn, t, none⟩)), .is (.int .u8 (ub.toNat : Int))]
                  (fun _ => False) [] (fun _ _ => True) 19 _ _ 118 14 16 (by kernel_rfl) (by rfl) (by rfl) (by omega) (by kernel_rfl) (by kernel_rfl) (by decide) (by decide) (fun _ e => e.elim) trivial (fun _ _ _ h _ => h) ?_ ?_
                · refine ⟨?_, ?_, ?_, ?_, ?_, ?_, ?_, ?_, ?_, ?_, ?_, ?_, ?_, ?_, trivial⟩
                  · intro a w' K hk hdep hfr hK
                    have f := hfr 5 (by decide)
                    exact plan_do (by rfl) (plan_yield (i := 0) (V := fun _ _ v => v = (.pointer (some ⟨E, 0, none⟩) : Value)) (.pointer (some ⟨E, 0, none⟩)) (by go_simp) rfl hK)
                  · intro a w' K hk hdep hfr hK
                    have e102 : a.tmps[102]?.getD undef = (.pointer (some ⟨E, 0, none⟩)) := hdep 0 (by decide) 102 rfl
                    exact plan_do (by rfl) (plan_yield (i := 1) (V := fun _ _ v => v = (.pointer (some ⟨E, 0, none⟩) : Value)) (.pointer (some ⟨E, 0, none⟩)) (by go_simp) rfl hK)
                  · intro a w' K hk hdep hfr hK
                    have e103 : a.tmps[103]?.getD undef = (.pointer (some ⟨E, 0, none⟩)) := hdep 1 (by decide) 103 rfl
                    exact plan_do (by rfl) (plan_yield (i := 2) (V := fun _ _ v => v = (.pointer (some ⟨E, 0, none⟩) : Value)) (.pointer (some ⟨E, 0, none⟩)) (by go_simp) rfl hK)
                  · intro a w' K hk hdep hfr hK
                    have e104 : a.tmps[104]?.getD undef = (.pointer (some ⟨E, 0, none⟩)) := hdep 2 (by decide) 104 rfl
                    have cl := (HCE.out w' hk).1
                    exact plan_do (by rfl) (plan_yield (i := 3) (V := fun _ _ v => v = (.slice (some ⟨ge, 0, none⟩) N ce : Value)) (.slice (some ⟨ge, 0, none⟩) N ce) (by go_simp) rfl hK)
                  · intro a w' K hk hdep hfr hK
                    have f := hfr 13 (by decide)
                    exact plan_do (by rfl) (plan_yield (i := 4) (V := fun _ _ v => v = (.pointer (some ⟨B3, 0, none⟩) : Value)) (.pointer (some ⟨B3, 0, none⟩)) (by go_simp) rfl hK)
                  · intro a w' K hk hdep hfr hK
                    have e106 : a.tmps[106]?.getD undef = (.pointer (some ⟨B3, 0, none⟩)) := hdep 4 (by decide) 106 rfl
                    have cl := (HCE.out w' hk).2.1
                    exact plan_do (by rfl) (plan_yield (i := 5) (V := fun _ _ v => v = (.int .i64 (m : Nat) : Value)) (.int .i64 (m : Nat)) (by go_simp) rfl hK)
                  · intro a w' K hk hdep hfr hK
                    have e105 : a.tmps[105]?.getD undef = (.slice (some ⟨ge, 0, none⟩) N ce) := hdep 3 (by decide) 105 rfl
                    have e107 : a.tmps[107]?.getD undef = (.int .i64 (m : Nat)) := hdep 5 (by decide) 107 rfl
                    have hj := HMN.out
                    exact plan_do (by rfl) (plan_yield (i := 6) (V := fun _ _ v => v = (.pointer (some ⟨ge, m, none⟩) : Value)) (.pointer (some ⟨ge, m, none⟩)) (by go_simp) rfl hK)
                  · intro a w' K hk hdep hfr hK
                    have e108 : a.tmps[108]?.getD undef = (.pointer (some ⟨ge, m, none⟩)) := hdep 6 (by decide) 108 rfl
                    have cl := (HCE.out w' hk).2.2.1
                    exact plan_do (by rfl) (plan_yield (i := 7) (V := fun _ _ v => v = (.slice (some ⟨gr, 0, none⟩) 512 cr : Value)) (.slice (some ⟨gr, 0, none⟩) 512 cr) (by go_simp) rfl hK)
                  · intro a w' K hk hdep hfr hK
                    have f := hfr 14 (by decide)
                    exact plan_do (by rfl) (plan_yield (i := 8) (V := fun _ _ v => v = (.int .i64 (t : Nat) : Value)) (.int .i64 (t : Nat)) (by go_simp) rfl hK)
                  · intro a w' K hk hdep hfr hK
                    have f := hfr 13 (by decide)
                    exact plan_do (by rfl) (plan_yield (i := 9) (V := fun _ _ v => v = (.pointer (some ⟨B3, 1, none⟩) : Value)) (.pointer (some ⟨B3, 1, none⟩)) (by go_simp) rfl hK)
                  · intro a w' K hk hdep hfr hK
                    have e111 : a.tmps[111]?.getD undef = (.pointer (some ⟨B3, 1, none⟩)) := hdep 9 (by decide) 111 rfl
                    have cl := (HCE.out w' hk).2.2.2.1
                    exact plan_do (by rfl) (plan_yield (i := 10) (V := fun _ _ v => v = (.slice (some ⟨gn, 0, none⟩) 512 cn : Value)) (.slice (some ⟨gn, 0, none⟩) 512 cn) (by go_simp) rfl hK)
                  · intro a w' K hk hdep hfr hK
                    have f := hfr 14 (by decide)
                    exact plan_do (by rfl) (plan_yield (i := 11) (V := fun _ _ v => v = (.int .i64 (t : Nat) : Value)) (.int .i64 (t : Nat)) (by go_simp) rfl hK)
                  · intro a w' K hk hdep hfr hK
                    have e112 : a.tmps[112]?.getD undef = (.slice (some ⟨gn, 0, none⟩) 512 cn) := hdep 10 (by decide) 112 rfl
                    have e113 : a.tmps[113]?.getD undef = (.int .i64 (t : Nat)) := hdep 11 (by decide) 113 rfl
                    have ht := HTI.out
                    exact plan_do (by rfl) (plan_yield (i := 12) (V := fun _ _ v => v = (.pointer (some ⟨gn, t, none⟩) : Value)) (.pointer (some ⟨gn, t, none⟩)) (by go_simp) rfl hK)
                  · intro a w' K hk hdep hfr hK
                    have e114 : a.tmps[114]?.getD undef = (.pointer (some ⟨gn, t, none⟩)) := hdep 12 (by decide) 114 rfl
                    have cl := (HCE.out w' hk).2.2.2.2
                    exact plan_do (by rfl) (plan_yield (i := 13) (V := fun _ _ v => v = (.int .u8 (ub.toNat : Int) : Value)) (.int .u8 (ub.toNat : Int)) (by go_simp) rfl hK)
                intro a w5 hk5 hdef hsz hv hfr _
                have e109 : a.tmps[109]?.getD undef = .slice (some ⟨gr, 0, none⟩) 512 cr := hv 7 109 (by omega) rfl
                have e110 : a.tmps[110]?.getD undef = .int .i64 (t : Nat) := hv 8 110 (by omega) rfl
                have e115 : a.tmps[115]?.getD undef = .int .u8 (ub.toNat : Int) := hv 13 115 (by omega) rfl
                have he := act_eq a _ [some 102, some 103, some 104, some 105, some 106, some 107, some 108, some 109, some 110, some 111, some 112, some 113, some 114, some 115, some 116, none] 118 rfl hsz hdef hfr (fun d => a.tmps[d]?.getD undef) (fun _ _ => rfl)
                obtain ⟨v102, h102⟩ : ∃ v, a.tmps[102]?.getD undef = v := ⟨_, rfl⟩
                obtain ⟨v103, h103⟩ : ∃ v, a.tmps[103]?.getD undef = v := ⟨_, rfl⟩
                obtain ⟨v104, h104⟩ : ∃ v, a.tmps[104]?.getD undef = v := ⟨_, rfl⟩
                obtain ⟨v105, h105⟩ : ∃ v, a.tmps[105]?.getD undef = v := ⟨_, rfl⟩
                obtain ⟨v106, h106⟩ : ∃ v, a.tmps[106]?.getD undef = v := ⟨_, rfl⟩
                obtain ⟨v107, h107⟩ : ∃ v, a.tmps[107]?.getD undef = v := ⟨_, rfl⟩
                obtain ⟨v108, h108⟩ : ∃ v, a.tmps[108]?.getD undef = v := ⟨_, rfl⟩
                obtain ⟨v111, h111⟩ : ∃ v, a.tmps[111]?.getD undef = v := ⟨_, rfl⟩
                obtain ⟨v112, h112⟩ : ∃ v, a.tmps[112]?.getD undef = v := ⟨_, rfl⟩
                obtain ⟨v113, h113⟩ : ∃ v, a.tmps[113]?.getD undef = v := ⟨_, rfl⟩
                obtain ⟨v114, h114⟩ : ∃ v, a.tmps[114]?.getD undef = v := ⟨_, rfl⟩
                obtain ⟨v116, h116⟩ : ∃ v, a.tmps[116]?.getD undef = v := ⟨_, rfl⟩
                simp only [putAll, h102, h103, h104, h105, h106, h107, h108, h111, h112, h113, h114, h116, e109, e110, e115, List.setIfInBounds_toArray, List.set_cons_zero, List.set_cons_succ] at he
                clear h102 h103 h104 h105 h106 h107 h108 h111 h112 h113 h114 h116 e109 e110 e115 hdef hsz hv hfr
                subst he
                have hp0 := RefAt.poke Lo m HMS.out gr cr t HTL.out ub _ (HRT.out.keep (S := fun _ => False) hk5 (fun _ _ e => e)) HGM.out
                rw [HNX.out HCD.out] at hp0
                have HP := Lib.hid hp0.1
                have HSP : Hid (Same w (w5.setCell ⟨gr, t, none⟩ (.int .u8 (ub.toNat : Int)))) := Lib.hid ((HST.out.trans hk5 (fun _ _ e => e)).trans hp0.2 (fun j hj e => by have := HGE.out; omega))
                have HOP := Lib.hid ((HOV.out.keep hk5 (fun e => e)).keep hp0.2 (fun e => HRB.out m HMS.out (by rw [HLM.out, e]; rfl)))
                obtain ⟨cl, fl⟩ := own_cell (own_keeps hk5 HGO.out (fun _ _ e => e)) t HTL.out
                clear hk5 hp0
                go_wp2
                go_roundw
                case rel => exact ⟨t + 1, by omega, by go_num, HP.out, HSP.out, HOP.out⟩
                case measure => simp [intOf]; omega
              · subst hf0
                by_cases hn : (t : Int) < nn
                · have HCD : Hid (sufC 2 nn t) := Lib.hid (by unfold sufC; omega)
                  go_wp2_with fail
                  refine wp_region_tail [[], [0], [1], [2], [], [4], [3, 5], [6], [], [], [9], [], [10, 11], [12], [7, 8, 0, 1, 2, 3, 4, 5, 6, 7, 8, 9, 10, 11, 12, 13], [14, 13, 0, 1, 2, 3, 4, 5, 6, 7, 8, 9, 10, 11, 12, 13]]
                    [some 102, some 103, some 104, some 105, some 106, some 107, some 108, some 109, some 110, some 111, some 112, some 113, some 114, some 115, some 116, none]
                    [.is (.pointer (some ⟨E, 0, none⟩)), .is (.pointer (some ⟨E, 0, none⟩)), .is (.pointer (some ⟨E, 0, none⟩)), .is (.slice (some ⟨ge, 0, none⟩) N ce), .is (.pointer (some ⟨B3, 0, none⟩)), .is (.int .i64 (m : Nat)), .is (.pointer (some ⟨ge, m, none⟩)), .is (.slice (some ⟨gr, 0, none⟩) 512 cr), .is (.int .i64 (t : Nat)), .is (.pointer (some ⟨B3, 1, none⟩)), .is (.slice (some ⟨gn, 0, none⟩) 512 cn), .is (.int .i64 (t : Nat)), .is (.pointer (some ⟨gn, t, none⟩)), .is (.int .u8 (ub.toNat : Int))]
                    (fun _ => False) [] (fun _ _ => True) 19 _ _ 118 14 16 (by kernel_rfl) (by rfl) (by rfl) (by omega) (by kernel_rfl) (by kernel_rfl) (by decide) (by decide) (fun _ e => e.elim) trivial (fun _ _ _ h _ => h) ?_ ?_
                  · refine ⟨?_, ?_, ?_, ?_, ?_, ?_, ?_, ?_, ?_, ?_, ?_, ?_, ?_, ?_, trivial⟩
                    · intro a w' K hk hdep hfr hK
                      have f := hfr 5 (by decide)
                      exact plan_do (by rfl) (plan_yield (i := 0) (V := fun _ _ v => v = (.pointer (some ⟨E, 0, none⟩) : Value)) (.pointer (some ⟨E, 0, none⟩)) (by go_simp) rfl hK)
                    · intro a w' K hk hdep hfr hK
                      have e102 : a.tmps[102]?.getD undef = (.pointer (some ⟨E, 0, none⟩)) := hdep 0 (by decide) 102 rfl
                      exact plan_do (by rfl) (plan_yield (i := 1) (V := fun _ _ v => v = (.pointer (some ⟨E, 0, none⟩) : Value)) (.pointer (some ⟨E, 0, none⟩)) (by go_simp) rfl hK)
                    · intro a w' K hk hdep hfr hK
                      have e103 : a.tmps[103]?.getD undef = (.pointer (some ⟨E, 0, none⟩)) := hdep 1 (by decide) 103 rfl
                      exact plan_do (by rfl) (plan_yield (i := 2) (V := fun _ _ v => v = (.pointer (some ⟨E, 0, none⟩) : Value)) (.pointer (some ⟨E, 0, none⟩)) (by go_simp) rfl hK)
                    · intro a w' K hk hdep hfr hK
                      have e104 : a.tmps[104]?.getD undef = (.pointer (some ⟨E, 0, none⟩)) := hdep 2 (by decide) 104 rfl
                      have cl := (HCE.out w' hk).1
                      exact plan_do (by rfl) (plan_yield (i := 3) (V := fun _ _ v => v = (.slice (some ⟨ge, 0, none⟩) N ce : Value)) (.slice (some ⟨ge, 0, none⟩) N ce) (by go_simp) rfl hK)
                    · intro a w' K hk hdep hfr hK
                      have f := hfr 13 (by decide)
                      exact plan_do (by rfl) (plan_yield (i := 4) (V := fun _ _ v => v = (.pointer (some ⟨B3, 0, none⟩) : Value)) (.pointer (some ⟨B3, 0, none⟩)) (by go_simp) rfl hK)
                    · intro a w' K hk hdep hfr hK
                      have e106 : a.tmps[106]?.getD undef = (.pointer (some ⟨B3, 0, none⟩)) := hdep 4 (by decide) 106 rfl
                      have cl := (HCE.out w' hk).2.1
                      exact plan_do (by rfl) (plan_yield (i := 5) (V := fun _ _ v => v = (.int .i64 (m : Nat) : Value)) (.int .i64 (m : Nat)) (by go_simp) rfl hK)
                    · intro a w' K hk hdep hfr hK
                      have e105 : a.tmps[105]?.getD undef = (.slice (some ⟨ge, 0, none⟩) N ce) := hdep 3 (by decide) 105 rfl
                      have e107 : a.tmps[107]?.getD undef = (.int .i64 (m : Nat)) := hdep 5 (by decide) 107 rfl
                      have hj := HMN.out
                      exact plan_do (by rfl) (plan_yield (i := 6) (V := fun _ _ v => v = (.pointer (some ⟨ge, m, none⟩) : Value)) (.pointer (some ⟨ge, m, none⟩)) (by go_simp) rfl hK)
                    · intro a w' K hk hdep hfr hK
                      have e108 : a.tmps[108]?.getD undef = (.pointer (some ⟨ge, m, none⟩)) := hdep 6 (by decide) 108 rfl
                      have cl := (HCE.out w' hk).2.2.1
                      exact plan_do (by rfl) (plan_yield (i := 7) (V := fun _ _ v => v = (.slice (some ⟨gr, 0, none⟩) 512 cr : Value)) (.slice (some ⟨gr, 0, none⟩) 512 cr) (by go_simp) rfl hK)
                    · intro a w' K hk hdep hfr hK
                      have f := hfr 14 (by decide)
                      exact plan_do (by rfl) (plan_yield (i := 8) (V := fun _ _ v => v = (.int .i64 (t : Nat) : Value)) (.int .i64 (t : Nat)) (by go_simp) rfl hK)
                    · intro a w' K hk hdep hfr hK
                      have f := hfr 13 (by decide)
                      exact plan_do (by rfl) (plan_yield (i := 9) (V := fun _ _ v => v = (.pointer (some ⟨B3, 1, none⟩) : Value)) (.pointer (some ⟨B3, 1, none⟩)) (by go_simp) rfl hK)
                    · intro a w' K hk hdep hfr hK
                      have e111 : a.tmps[111]?.getD undef = (.pointer (some ⟨B3, 1, none⟩)) := hdep 9 (by decide) 111 rfl
                      have cl := (HCE.out w' hk).2.2.2.1
                      exact plan_do (by rfl) (plan_yield (i := 10) (V := fun _ _ v => v = (.slice (some ⟨gn, 0, none⟩) 512 cn : Value)) (.slice (some ⟨gn, 0, none⟩) 512 cn) (by go_simp) rfl hK)
                    · intro a w' K hk hdep hfr hK
                      have f := hfr 14 (by decide)
                      exact plan_do (by rfl) (plan_yield (i := 11) (V := fun _ _ v => v = (.int .i64 (t : Nat) : Value)) (.int .i64 (t : Nat)) (by go_simp) rfl hK)
                    · intro a w' K hk hdep hfr hK
                      have e112 : a.tmps[112]?.getD undef = (.slice (some ⟨gn, 0, none⟩) 512 cn) := hdep 10 (by decide) 112 rfl
                      have e113 : a.tmps[113]?.getD undef = (.int .i64 (t : Nat)) := hdep 11 (by decide) 113 rfl
                      have ht := HTI.out
                      exact plan_do (by rfl) (plan_yield (i := 12) (V := fun _ _ v => v = (.pointer (some ⟨gn, t, none⟩) : Value)) (.pointer (some ⟨gn, t, none⟩)) (by go_simp) rfl hK)
                    · intro a w' K hk hdep hfr hK
                      have e114 : a.tmps[114]?.getD undef = (.pointer (some ⟨gn, t, none⟩)) := hdep 12 (by decide) 114 rfl
                      have cl := (HCE.out w' hk).2.2.2.2
                      exact plan_do (by rfl) (plan_yield (i := 13) (V := fun _ _ v => v = (.int .u8 (ub.toNat : Int) : Value)) (.int .u8 (ub.toNat : Int)) (by go_simp) rfl hK)
                  intro a w5 hk5 hdef hsz hv hfr _
                  have e109 : a.tmps[109]?.getD undef = .slice (some ⟨gr, 0, none⟩) 512 cr := hv 7 109 (by omega) rfl
                  have e110 : a.tmps[110]?.getD undef = .int .i64 (t : Nat) := hv 8 110 (by omega) rfl
                  have e115 : a.tmps[115]?.getD undef = .int .u8 (ub.toNat : Int) := hv 13 115 (by omega) rfl
                  have he := act_eq a _ [some 102, some 103, some 104, some 105, some 106, some 107, some 108, some 109, some 110, some 111, some 112, some 113, some 114, some 115, some 116, none] 118 rfl hsz hdef hfr (fun d => a.tmps[d]?.getD undef) (fun _ _ => rfl)
                  obtain ⟨v102, h102⟩ : ∃ v, a.tmps[102]?.getD undef = v := ⟨_, rfl⟩
                  obtain ⟨v103, h103⟩ : ∃ v, a.tmps[103]?.getD undef = v := ⟨_, rfl⟩
                  obtain ⟨v104, h104⟩ : ∃ v, a.tmps[104]?.getD undef = v := ⟨_, rfl⟩
                  obtain ⟨v105, h105⟩ : ∃ v, a.tmps[105]?.getD undef = v := ⟨_, rfl⟩
                  obtain ⟨v106, h106⟩ : ∃ v, a.tmps[106]?.getD undef = v := ⟨_, rfl⟩
                  obtain ⟨v107, h107⟩ : ∃ v, a.tmps[107]?.getD undef = v := ⟨_, rfl⟩
                  obtain ⟨v108, h108⟩ : ∃ v, a.tmps[108]?.getD undef = v := ⟨_, rfl⟩
                  obtain ⟨v111, h111⟩ : ∃ v, a.tmps[111]?.getD undef = v := ⟨_, rfl⟩
                  obtain ⟨v112, h112⟩ : ∃ v, a.tmps[112]?.getD undef = v := ⟨_, rfl⟩
                  obtain ⟨v113, h113⟩ : ∃ v, a.tmps[113]?.getD undef = v := ⟨_, rfl⟩
                  obtain ⟨v114, h114⟩ : ∃ v, a.tmps[114]?.getD undef = v := ⟨_, rfl⟩
                  obtain ⟨v116, h116⟩ : ∃ v, a.tmps[116]?.getD undef = v := ⟨_, rfl⟩
                  simp only [putAll, h102, h103, h104, h105, h106, h107, h108, h111, h112, h113, h114, h116, e109, e110, e115, List.setIfInBounds_toArray, List.set_cons_zero, List.set_cons_succ] at he
                  clear h102 h103 h104 h105 h106 h107 h108 h111 h112 h113 h114 h116 e109 e110 e115 hdef hsz hv hfr
                  subst he
                  have hp0 := RefAt.poke Lo m HMS.out gr cr t HTL.out ub _ (HRT.out.keep (S := fun _ => False) hk5 (fun _ _ e => e)) HGM.out
                  rw [HNX.out HCD.out] at hp0
                  have HP := Lib.hid hp0.1
                  have HSP : Hid (Same w (w5.setCell ⟨gr, t, none⟩ (.int .u8 (ub.toNat : Int)))) := Lib.hid ((HST.out.trans hk5 (fun _ _ e => e)).trans hp0.2 (fun j hj e => by have := HGE.out; omega))
                  have HOP := Lib.hid ((HOV.out.keep hk5 (fun e => e)).keep hp0.2 (fun e => HRB.out m HMS.out (by rw [HLM.out, e]; rfl)))
                  obtain ⟨cl, fl⟩ := own_cell (own_keeps hk5 HGO.out (fun _ _ e => e)) t HTL.out
                  clear hk5 hp0
                  go_wp2
                  go_roundw
                  case rel => exact ⟨t + 1, by omega, by go_num, HP.out, HSP.out, HOP.out⟩
                  case measure => simp [intOf]; omega
                · have HCD : Hid (¬ sufC 2 nn t) := Lib.hid (by unfold sufC; omega)
                  have hmr := HRT.out
                  rw [HNY.out HCD.out] at hmr
                  have HMR := Lib.hid hmr
                  clear hmr
                  go_wp2
                  go_roundw
                  case rel => exact ⟨t + 1, by omega, by go_num, HMR.out, HST.out, HOV.out⟩
                  case measure => simp [intOf]; omega
              · subst hf0
                by_cases hn : (t : Int) ≥ nn
                · have HCD : Hid (sufC 3 nn t) := Lib.hid (by unfold sufC; omega)
                  go_wp2_with fail
                  refine wp_region_tail [[], [0], [1], [2], [], [4], [3, 5], [6], [], [], [9], [], [10, 11], [12], [7, 8, 0, 1, 2, 3, 4, 5, 6, 7, 8, 9, 10, 11, 12, 13], [14, 13, 0, 1, 2, 3, 4, 5, 6, 7, 8, 9, 10, 11, 12, 13]]
                    [some 102, some 103, some 104, some 105, some 106, some 107, some 108, some 109, some 110, some 111, some 112, some 113, some 114, some 115, some 116, none]
                    [.is (.pointer (some ⟨E, 0, none⟩)), .is (.pointer (some ⟨E, 0, none⟩)), .is (.pointer (some ⟨E, 0, none⟩)), .is (.slice (some ⟨ge, 0, none⟩) N ce), .is (.pointer (some ⟨B3, 0, none⟩)), .is (.int .i64 (m : Nat)), .is (.pointer (some ⟨ge, m, none⟩)), .is (.slice (some ⟨gr, 0, none⟩) 512 cr), .is (.int .i64 (t : Nat)), .is (.pointer (some ⟨B3, 1, none⟩)), .is (.slice (some ⟨gn, 0, none⟩) 512 cn), .is (.int .i64 (t : Nat)), .is (.pointer (some ⟨gn, t, none⟩)), .is (.int .u8 (ub.toNat : Int))]
                    (fun _ => False) [] (fun _ _ => True) 19 _ _ 118 14 16 (by kernel_rfl) (by rfl) (by rfl) (by omega) (by kernel_rfl) (by kernel_rfl) (by decide) (by decide) (fun _ e => e.elim) trivial (fun _ _ _ h _ => h) ?_ ?_
                  · refine ⟨?_, ?_, ?_, ?_, ?_, ?_, ?_, ?_, ?_, ?_, ?_, ?_, ?_, ?_, trivial⟩
                    · intro a w' K hk hdep hfr hK
                      have f := hfr 5 (by decide)
                      exact plan_do (by rfl) (plan_yield (i := 0) (V := fun _ _ v => v = (.pointer (some ⟨E, 0, none⟩) : Value)) (.pointer (some ⟨E, 0, none⟩)) (by go_simp) rfl hK)
                    · intro a w' K hk hdep hfr hK
                      have e102 : a.tmps[102]?.getD undef = (.pointer (some ⟨E, 0, none⟩)) := hdep 0 (by decide) 102 rfl
                      exact plan_do (by rfl) (plan_yield (i := 1) (V := fun _ _ v => v = (.pointer (some ⟨E, 0, none⟩) : Value)) (.pointer (some ⟨E, 0, none⟩)) (by go_simp) rfl hK)
                    · intro a w' K hk hdep hfr hK
                      have e103 : a.tmps[103]?.getD undef = (.pointer (some ⟨E, 0, none⟩)) := hdep 1 (by decide) 103 rfl
                      exact plan_do (by rfl) (plan_yield (i := 2) (V := fun _ _ v => v = (.pointer (some ⟨E, 0, none⟩) : Value)) (.pointer (some ⟨E, 0, none⟩)) (by go_simp) rfl hK)
                    · intro a w' K hk hdep hfr hK
                      have e104 : a.tmps[104]?.getD undef = (.pointer (some ⟨E, 0, none⟩)) := hdep 2 (by decide) 104 rfl
                      have cl := (HCE.out w' hk).1
                      exact plan_do (by rfl) (plan_yield (i := 3) (V := fun _ _ v => v = (.slice (some ⟨ge, 0, none⟩) N ce : Value)) (.slice (some ⟨ge, 0, none⟩) N ce) (by go_simp) rfl hK)
                    · intro a w' K hk hdep hfr hK
                      have f := hfr 13 (by decide)
                      exact plan_do (by rfl) (plan_yield (i := 4) (V := fun _ _ v => v = (.pointer (some ⟨B3, 0, none⟩) : Value)) (.pointer (some ⟨B3, 0, none⟩)) (by go_simp) rfl hK)
                    · intro a w' K hk hdep hfr hK
                      have e106 : a.tmps[106]?.getD undef = (.pointer (some ⟨B3, 0, none⟩)) := hdep 4 (by decide) 106 rfl
                      have cl := (HCE.out w' hk).2.1
                      exact plan_do (by rfl) (plan_yield (i := 5) (V := fun _ _ v => v = (.int .i64 (m : Nat) : Value)) (.int .i64 (m : Nat)) (by go_simp) rfl hK)
                    · intro a w' K hk hdep hfr hK
                      have e105 : a.tmps[105]?.getD undef = (.slice (some ⟨ge, 0, none⟩) N ce) := hdep 3 (by decide) 105 rfl
                      have e107 : a.tmps[107]?.getD undef = (.int .i64 (m : Nat)) := hdep 5 (by decide) 107 rfl
                      have hj := HMN.out
                      exact plan_do (by rfl) (plan_yield (i := 6) (V := fun _ _ v => v = (.pointer (some ⟨ge, m, none⟩) : Value)) (.pointer (some ⟨ge, m, none⟩)) (by go_simp) rfl hK)
                    · intro a w' K hk hdep hfr hK
                      have e108 : a.tmps[108]?.getD undef = (.pointer (some ⟨ge, m, none⟩)) := hdep 6 (by decide) 108 rfl
                      have cl := (HCE.out w' hk).2.2.1
                      exact plan_do (by rfl) (plan_yield (i := 7) (V := fun _ _ v => v = (.slice (some ⟨gr, 0, none⟩) 512 cr : Value)) (.slice (some ⟨gr, 0, none⟩) 512 cr) (by go_simp) rfl hK)
                    · intro a w' K hk hdep hfr hK
                      have f := hfr 14 (by decide)
                      exact plan_do (by rfl) (plan_yield (i := 8) (V := fun _ _ v => v = (.int .i64 (t : Nat) : Value)) (.int .i64 (t : Nat)) (by go_simp) rfl hK)
                    · intro a w' K hk hdep hfr hK
                      have f := hfr 13 (by decide)
                      exact plan_do (by rfl) (plan_yield (i := 9) (V := fun _ _ v => v = (.pointer (some ⟨B3, 1, none⟩) : Value)) (.pointer (some ⟨B3, 1, none⟩)) (by go_simp) rfl hK)
                    · intro a w' K hk hdep hfr hK
                      have e111 : a.tmps[111]?.getD undef = (.pointer (some ⟨B3, 1, none⟩)) := hdep 9 (by decide) 111 rfl
                      have cl := (HCE.out w' hk).2.2.2.1
                      exact plan_do (by rfl) (plan_yield (i := 10) (V := fun _ _ v => v = (.slice (some ⟨gn, 0, none⟩) 512 cn : Value)) (.slice (some ⟨gn, 0, none⟩) 512 cn) (by go_simp) rfl hK)
                    · intro a w' K hk hdep hfr hK
                      have f := hfr 14 (by decide)
                      exact plan_do (by rfl) (plan_yield (i := 11) (V := fun _ _ v => v = (.int .i64 (t : Nat) : Value)) (.int .i64 (t : Nat)) (by go_simp) rfl hK)
                    · intro a w' K hk hdep hfr hK
                      have e112 : a.tmps[112]?.getD undef = (.slice (some ⟨gn, 0, none⟩) 512 cn) := hdep 10 (by decide) 112 rfl
                      have e113 : a.tmps[113]?.getD undef = (.int .i64 (t : Nat)) := hdep 11 (by decide) 113 rfl
                      have ht := HTI.out
                      exact plan_do (by rfl) (plan_yield (i := 12) (V := fun _ _ v => v = (.pointer (some ⟨gn, t, none⟩) : Value)) (.pointer (some ⟨gn, t, none⟩)) (by go_simp) rfl hK)
                    · intro a w' K hk hdep hfr hK
                      have e114 : a.tmps[114]?.getD undef = (.pointer (some ⟨gn, t, none⟩)) := hdep 12 (by decide) 114 rfl
                      have cl := (HCE.out w' hk).2.2.2.2
                      exact plan_do (by rfl) (plan_yield (i := 13) (V := fun _ _ v => v = (.int .u8 (ub.toNat : Int) : Value)) (.int .u8 (ub.toNat : Int)) (by go_simp) rfl hK)
                  intro a w5 hk5 hdef hsz hv hfr _
                  have e109 : a.tmps[109]?.getD undef = .slice (some ⟨gr, 0, none⟩) 512 cr := hv 7 109 (by omega) rfl
                  have e110 : a.tmps[110]?.getD undef = .int .i64 (t : Nat) := hv 8 110 (by omega) rfl
                  have e115 : a.tmps[115]?.getD undef = .int .u8 (ub.toNat : Int) := hv 13 115 (by omega) rfl
                  have he := act_eq a _ [some 102, some 103, some 104, some 105, some 106, some 107, some 108, some 109, some 110, some 111, some 112, some 113, some 114, some 115, some 116, none] 118 rfl hsz hdef hfr (fun d => a.tmps[d]?.getD undef) (fun _ _ => rfl)
                  obtain ⟨v102, h102⟩ : ∃ v, a.tmps[102]?.getD undef = v := ⟨_, rfl⟩
                  obtain ⟨v103, h103⟩ : ∃ v, a.tmps[103]?.getD undef = v := ⟨_, rfl⟩
                  obtain ⟨v104, h104⟩ : ∃ v, a.tmps[104]?.getD undef = v := ⟨_, rfl⟩
                  obtain ⟨v105, h105⟩ : ∃ v, a.tmps[105]?.getD undef = v := ⟨_, rfl⟩
                  obtain ⟨v106, h106⟩ : ∃ v, a.tmps[106]?.getD undef = v := ⟨_, rfl⟩
                  obtain ⟨v107, h107⟩ : ∃ v, a.tmps[107]?.getD undef = v := ⟨_, rfl⟩
                  obtain ⟨v108, h108⟩ : ∃ v, a.tmps[108]?.getD undef = v := ⟨_, rfl⟩
                  obtain ⟨v111, h111⟩ : ∃ v, a.tmps[111]?.getD undef = v := ⟨_, rfl⟩
                  obtain ⟨v112, h112⟩ : ∃ v, a.tmps[112]?.getD undef = v := ⟨_, rfl⟩
                  obtain ⟨v113, h113⟩ : ∃ v, a.tmps[113]?.getD undef = v := ⟨_, rfl⟩
                  obtain ⟨v114, h114⟩ : ∃ v, a.tmps[114]?.getD undef = v := ⟨_, rfl⟩
                  obtain ⟨v116, h116⟩ : ∃ v, a.tmps[116]?.getD undef = v := ⟨_, rfl⟩
                  simp only [putAll, h102, h103, h104, h105, h106, h107, h108, h111, h112, h113, h114, h116, e109, e110, e115, List.setIfInBounds_toArray, List.set_cons_zero, List.set_cons_succ] at he
                  clear h102 h103 h104 h105 h106 h107 h108 h111 h112 h113 h114 h116 e109 e110 e115 hdef hsz hv hfr
                  subst he
                  have hp0 := RefAt.poke Lo m HMS.out gr cr t HTL.out ub _ (HRT.out.keep (S := fun _ => False) hk5 (fun _ _ e => e)) HGM.out
                  rw [HNX.out HCD.out] at hp0
                  have HP := Lib.hid hp0.1
                  have HSP : Hid (Same w (w5.setCell ⟨gr, t, none⟩ (.int .u8 (ub.toNat : Int)))) := Lib.hid ((HST.out.trans hk5 (fun _ _ e => e)).trans hp0.2 (fun j hj e => by have := HGE.out; omega))
                  have HOP := Lib.hid ((HOV.out.keep hk5 (fun e => e)).keep hp0.2 (fun e => HRB.out m HMS.out (by rw [HLM.out, e]; rfl)))
                  obtain ⟨cl, fl⟩ := own_cell (own_keeps hk5 HGO.out (fun _ _ e => e)) t HTL.out
                  clear hk5 hp0
                  go_wp2
                  go_roundw
                  case rel => exact ⟨t + 1, by omega, by go_num, HP.out, HSP.out, HOP.out⟩
                  case measure => simp [intOf]; omega
                · have HCD : Hid (¬ sufC 3 nn t) := Lib.hid (by unfold sufC; omega)
                  have hmr := HRT.out
                  rw [HNY.out HCD.out] at hmr
                  have HMR := Lib.hid hmr
                  clear hmr
                  go_wp2
                  go_roundw
                  case rel => exact ⟨t + 1, by omega, by go_num, HMR.out, HST.out, HOV.out⟩
                  case measure => simp [intOf]; omega
            · have ht2 : ¬ (t : Int) < 512 := by omega
              obtain rfl : t = 512 := by omega
              have HFIN : Hid (OutI w wr E (.slice (some ⟨ge, 0, none⟩) N ce) (Lo.set m (.slice (some ⟨gr, 0, none⟩) 512 cr, suffered old nb zf)) ∧ (Lo.set m ((.slice (some ⟨gr, 0, none⟩) 512 cr : Value), suffered old nb zf)).map Prod.snd = crashedTo s.L s.O fs (k + 1)) := Lib.hid (by
                have h := HRT.out
                rw [← HF4.out, ← HN5.out, ← HQ4.out, sufK_end old nb zf HOLD.out HNBL.out] at h
                refine ⟨?_, by rw [List.map_set, HM.out]; exact HSTEP.out.symm⟩
                have h2 := HOC.out.set m HMS.out (suffered old nb zf) (w2 := wr) (by rw [HLM.out]; exact h) HST.out
                rw [HLM.out] at h2
                exact h2)
              go_wp2
              go_roundw
              case rel => exact ⟨k + 1, _, _, by omega, by go_num, HFIN.out.1, by rw [List.length_set]; exact HLN.out, HFIN.out.2⟩
              case measure => simp [intOf]; omega
        · have hfl2 : ¬ (k : Int) < (n : Int) := by omega
          have HSTEP := Lib.hid (HSB.out (by have := HFN.out; omega))
          obtain ⟨zf, hzf⟩ : ∃ zf : Int, zf = 0 := ⟨0, rfl⟩
          rw [← hzf] at HSTEP
          have hbz : -9223372036854775808 ≤ zf ∧ zf ≤ 9223372036854775807 := by omega
          have HZ0 := Lib.hid hzf
          have HZB := Lib.hid hbz
          obtain ⟨qf, hqf⟩ : ∃ qf, zf / 4 = qf := ⟨_, rfl⟩
          obtain ⟨f, hf4⟩ : ∃ f, zf % 4 = f := ⟨_, rfl⟩
          obtain ⟨nn, hn5⟩ : ∃ nn, qf % 513 = nn := ⟨_, rfl⟩
          have HQB : Hid (-9223372036854775808 ≤ qf ∧ qf ≤ 9223372036854775807) := Lib.hid (by omega)
          have HF0 : Hid (0 ≤ f ∧ f < 4) := Lib.hid (by omega)
          have HQ4 := Lib.hid hqf
          have HF4 := Lib.hid hf4
          have HN5 := Lib.hid hn5
          clear hbz hqf hf4 hn5
          go_wp2_with fail
          rw [show (0 : Int) = zf from HZ0.out.symm]
          (refine (floor_ok zf 4 wr (by decide) (by decide) HZB.out).mono ?_); rintro e wa ⟨he, hka⟩
          rw [HQ4.out, HF4.out] at he
          subst he
          have HKA := Lib.hid hka
          clear hka
          go_wp2_with fail
          (refine (floor_ok qf 513 wa (by decide) (by decide) HQB.out).mono ?_); rintro e wb ⟨he, hkb⟩
          rw [HN5.out] at he
          subst he
          have HOB := Lib.hid ((HO.out.keep HKA.out).keep hkb)
          clear hkb
          obtain ⟨wc, hst, hbc, hkc⟩ := store_rw wb x HXC.out
          obtain ⟨B3, hB3⟩ : ∃ B3, wb.heap.size = B3 := ⟨_, rfl⟩
          have HBE : Hid (w.heap.size ≤ B3) := Lib.hid (by have := HOB.out.same.size; omega)
          have HRB : Hid (∀ j (hj : j < Lo.length), Lo[j].1.ownBlock ≠ some B3) := Lib.hid (fun j hj e => by have := ((HOB.out.ref.rowL _ (List.getElem_mem hj)).1.lt B3 e).2; omega)
          rw [hB3] at hst hbc
          have HOV0 : Hid (Whole wc B3 66 (ocells x)) := Lib.hid hbc
          have HOC := Lib.hid (HOB.out.keep hkc)
          have HRA : Hid (wb.rangeAt go (k * 2) (ocells x)) := Lib.hid (rangeAt_keep HRW.out HOB.out.same (fun _ e => e))
          have cs1 := (HCS.out wb HOB.out.same).2
          clear hbc hkc
          go_wp2_with (refine wpList_load_mid (by rfl) 66 _ (by rfl) go (k * 2) (by rfl) (ocells x) _ HRA.out Try.underlying66 rfl HLS.out ?_)
          clear hst cs1
          have HRT0 : Hid (RefAt wc E (.slice (some ⟨ge, 0, none⟩) N ce) (.slice none 0 0) (Lo.set m (.slice (some ⟨gr, 0, none⟩) 512 cr, sufK old nb f nn 0)) [] (-1) false) := Lib.hid (by
            rw [sufK_zero _ _ _ _ HOLD.out, HSELF.out]
            exact HOC.out.ref)
          have HSC := Lib.hid HOC.out.same
          go_loopw [14] (fun i wr => ∃ t : Nat, t ≤ 512 ∧ i = .int .i64 t ∧ RefAt wr E (.slice (some ⟨ge, 0, none⟩) N ce) (.slice none 0 0) (Lo.set m (.slice (some ⟨gr, 0, none⟩) 512 cr, sufK old nb f nn t)) [] (-1) false ∧ Same w wr ∧ Whole wr B3 66 (ocells x)) (fun i _ => 512 - (intOf i).toNat)
          case atStart => exact ⟨0, by omega, rfl, HRT0.out, HSC.out, HOV0.out⟩
          case round =>
            obtain ⟨t, ht, rfl, hrt, hst, hov⟩ := hrel
            have HRT := Lib.hid hrt
            have HST := Lib.hid hst
            have HOV := Lib.hid hov
            clear hrt hst hov
            by_cases htl : t < 512
            · have ht2 : (t : Int) < 512 := by omega
              have HTL := Lib.hid htl
              have HTI : Hid ((t : Int) < 512) := Lib.hid ht2
              have HGO := Lib.hid (HRT.out.rowL ((.slice (some ⟨gr, 0, none⟩) 512 cr, sufK old nb f nn t) : Value × List UInt8) (List.mem_iff_getElem.2 ⟨m, by rw [List.length_set]; exact HMS.out, by simp⟩)).1
              obtain ⟨ub, hub⟩ : ∃ ub, nb.getD t 0 = ub := ⟨_, rfl⟩
              have HNX := Lib.hid (sufK_hit old nb f nn t htl)
              have HNY := Lib.hid (sufK_miss old nb f nn t)
              rw [hub] at HNX
              have HCE : Hid (∀ w', Same wr w' → w'.cell? ⟨E, 0, none⟩ = some (.slice (some ⟨ge, 0, none⟩) N ce) ∧ w'.cell? ⟨B3, 0, none⟩ = some (.int .i64 (m : Nat)) ∧ w'.cell? ⟨ge, m, none⟩ = some (.slice (some ⟨gr, 0, none⟩) 512 cr) ∧ w'.cell? ⟨B3, 1, none⟩ = some (.slice (some ⟨gn, 0, none⟩) 512 cn) ∧ w'.cell? ⟨gn, t, none⟩ = some (.int .u8 (ub.toNat : Int))) := Lib.hid (fun w' kk => by
                have h1 := HRT.out.keep kk (fun _ _ e => e)
                have h2 := HOV.out.keep kk (fun e => e)
                have h3 := h1.las.cells (g := ge) rfl m (.slice (some ⟨gr, 0, none⟩) 512 cr) (by rw [List.map_set, List.getElem?_set_self (by rw [List.length_map]; exact HMS.out)])
                have hadd : (⟨ge, 0, none⟩ : Addr).add m = ⟨ge, m, none⟩ := by unfold Addr.add; split <;> simp_all
                rw [hadd] at h3
                have h4 := (own_cell (own_keeps (HST.out.trans kk (fun _ _ e => e)) HNR.out (fun _ _ e => e)) t htl).1
                rw [hub] at h4
                exact ⟨h1.obj.cell (i := 0) rfl, h2.cell (i := 0) (by rw [HX1.out]; rfl), h3, h2.cell (i := 1) (by rw [HX1.out]; rfl), h4⟩)
              clear hub
              rcases (show f = 0 ∨ f = 1 ∨ f = 2 ∨ f = 3 by have := HF0.out; omega) with hf0 | hf0 | hf0 | hf0
              · subst hf0
                have HCD : Hid (¬ sufC 0 nn t) := Lib.hid (by unfold sufC; omega)
                have hmr := HRT.out
                rw [HNY.out HCD.out] at hmr
                have HMR := Lib.hid hmr
                clear hmr
                go_wp2
                go_roundw
                case rel => exact ⟨t + 1, by omega, by go_num, HMR.out, HST.out, HOV.out⟩
                case measure => simp [intOf]; omega
              · subst hf0
                have HCD : Hid (sufC 1 nn t) := Lib.hid (by unfold sufC; omega)
                go_wp2_with fail
                refine wp_region_tail [[], [0], [1], [2], [], [4], [3, 5], [6], [], [], [9], [], [10, 11], [12], [7, 8, 0, 1, 2, 3, 4, 5, 6, 7, 8, 9, 10, 11, 12, 13], [14, 13, 0, 1, 2, 3, 4, 5, 6, 7, 8, 9, 10, 11, 12, 13]]
                  [some 102, some 103, some 104, some 105, some 106, some 107, some 108, some 109, some 110, some 111, some 112, some 113, some 114, some 115, some 116, none]
                  [.is (.pointer (some ⟨E, 0, none⟩)), .is (.pointer (some ⟨E, 0, none⟩)), .is (.pointer (some ⟨E, 0, none⟩)), .is (.slice (some ⟨ge, 0, none⟩) N ce), .is (.pointer (some ⟨B3, 0, none⟩)), .is (.int .i64 (m : Nat)), .is (.pointer (some ⟨ge, m, none⟩)), .is (.slice (some ⟨gr, 0, none⟩) 512 cr), .is (.int .i64 (t : Nat)), .is (.pointer (some ⟨B3, 1, none⟩)), .is (.slice (some ⟨gn, 0, none⟩) 512 cn), .is (.int .i64 (t : Nat)), .is (.pointer (some ⟨gn, t, none⟩)), .is (.int .u8 (ub.toNat : Int))]
                  (fun _ => False) [] (fun _ _ => True) 19 _ _ 118 14 16 (by kernel_rfl) (by rfl) (by rfl) (by omega) (by kernel_rfl) (by kernel_rfl) (by decide) (by decide) (fun _ e => e.elim) trivial (fun _ _ _ h _ => h) ?_ ?_
                · refine ⟨?_, ?_, ?_, ?_, ?_, ?_, ?_, ?_, ?_, ?_, ?_, ?_, ?_, ?_, trivial⟩
                  · intro a w' K hk hdep hfr hK
                    have f := hfr 5 (by decide)
                    exact plan_do (by rfl) (plan_yield (i := 0) (V := fun _ _ v => v = (.pointer (some ⟨E, 0, none⟩) : Value)) (.pointer (some ⟨E, 0, none⟩)) (by go_simp) rfl hK)
                  · intro a w' K hk hdep hfr hK
                    have e102 : a.tmps[102]?.getD undef = (.pointer (some ⟨E, 0, none⟩)) := hdep 0 (by decide) 102 rfl
                    exact plan_do (by rfl) (plan_yield (i := 1) (V := fun _ _ v => v = (.pointer (some ⟨E, 0, none⟩) : Value)) (.pointer (some ⟨E, 0, none⟩)) (by go_simp) rfl hK)
                  · intro a w' K hk hdep hfr hK
                    have e103 : a.tmps[103]?.getD undef = (.pointer (some ⟨E, 0, none⟩)) := hdep 1 (by decide) 103 rfl
                    exact plan_do (by rfl) (plan_yield (i := 2) (V := fun _ _ v => v = (.pointer (some ⟨E, 0, none⟩) : Value)) (.pointer (some ⟨E, 0, none⟩)) (by go_simp) rfl hK)
                  · intro a w' K hk hdep hfr hK
                    have e104 : a.tmps[104]?.getD undef = (.pointer (some ⟨E, 0, none⟩)) := hdep 2 (by decide) 104 rfl
                    have cl := (HCE.out w' hk).1
                    exact plan_do (by rfl) (plan_yield (i := 3) (V := fun _ _ v => v = (.slice (some ⟨ge, 0, none⟩) N ce : Value)) (.slice (some ⟨ge, 0, none⟩) N ce) (by go_simp) rfl hK)
                  · intro a w' K hk hdep hfr hK
                    have f := hfr 13 (by decide)
                    exact plan_do (by rfl) (plan_yield (i := 4) (V := fun _ _ v => v = (.pointer (some ⟨B3, 0, none⟩) : Value)) (.pointer (some ⟨B3, 0, none⟩)) (by go_simp) rfl hK)
                  · intro a w' K hk hdep hfr hK
                    have e106 : a.tmps[106]?.getD undef = (.pointer (some ⟨B3, 0, none⟩)) := hdep 4 (by decide) 106 rfl
                    have cl := (HCE.out w' hk).2.1
                    exact plan_do (by rfl) (plan_yield (i := 5) (V := fun _ _ v => v = (.int .i64 (m : Nat) : Value)) (.int .i64 (m : Nat)) (by go_simp) rfl hK)
                  · intro a w' K hk hdep hfr hK
                    have e105 : a.tmps[105]?.getD undef = (.slice (some ⟨ge, 0, none⟩) N ce) := hdep 3 (by decide) 105 rfl
                    have e107 : a.tmps[107]?.getD undef = (.int .i64 (m : Nat)) := hdep 5 (by decide) 107 rfl
                    have hj := HMN.out
                    exact plan_do (by rfl) (plan_yield (i := 6) (V := fun _ _ v => v = (.pointer (some ⟨ge, m, none⟩) : Value)) (.pointer (some ⟨ge, m, none⟩)) (by go_simp) rfl hK)
                  · intro a w' K hk hdep hfr hK
                    have e108 : a.tmps[108]?.getD undef = (.pointer (some ⟨ge, m, none⟩)) := hdep 6 (by decide) 108 rfl
                    have cl := (HCE.out w' hk).2.2.1
                    exact plan_do (by rfl) (plan_yield (i := 7) (V := fun _ _ v => v = (.slice (some ⟨gr, 0, none⟩) 512 cr : Value)) (.slice (some ⟨gr, 0, none⟩) 512 cr) (by go_simp) rfl hK)
                  · intro a w' K hk hdep hfr hK
                    have f := hfr 14 (by decide)
                    exact plan_do (by rfl) (plan_yield (i := 8) (V := fun _ _ v => v = (.int .i64 (t : Nat) : Value)) (.int .i64 (t : Nat)) (by go_simp) rfl hK)
                  · intro a w' K hk hdep hfr hK
                    have f := hfr 13 (by decide)
                    exact plan_do (by rfl) (plan_yield (i := 9) (V := fun _ _ v => v = (.pointer (some ⟨B3, 1, none⟩) : Value)) (.pointer (some ⟨B3, 1, none⟩)) (by go_simp) rfl hK)
                  · intro a w' K hk hdep hfr hK
                    have e111 : a.tmps[111]?.getD undef = (.pointer (some ⟨B3, 1, none⟩)) := hdep 9 (by decide) 111 rfl
                    have cl := (HCE.out w' hk).2.2.2.1
                    exact plan_do (by rfl) (plan_yield (i := 10) (V := fun _ _ v => v = (.slice (some ⟨gn, 0, none⟩) 512 cn : Value)) (.slice (some ⟨gn, 0, none⟩) 512 cn) (by go_simp) rfl hK)
                  · intro a w' K hk hdep hfr hK
                    have f := hfr 14 (by decide)
                    exact plan_do (by rfl) (plan_yield (i := 11) (V := fun _ _ v => v = (.int .i64 (t : Nat) : Value)) (.int .i64 (t : Nat)) (by go_simp) rfl hK)
                  · intro a w' K hk hdep hfr hK
                    have e112 : a.tmps[112]?.getD undef = (.slice (some ⟨gn, 0, none⟩) 512 cn) := hdep 10 (by decide) 112 rfl
                    have e113 : a.tmps[113]?.getD undef = (.int .i64 (t : Nat)) := hdep 11 (by decide) 113 rfl
                    have ht := HTI.out
                    exact plan_do (by rfl) (plan_yield (i := 12) (V := fun _ _ v => v = (.pointer (some ⟨gn, t, none⟩) : Value)) (.pointer (some ⟨gn, t, none⟩)) (by go_simp) rfl hK)
                  · intro a w' K hk hdep hfr hK
                    have e114 : a.tmps[114]?.getD undef = (.pointer (some ⟨gn, t, none⟩)) := hdep 12 (by decide) 114 rfl
                    have cl := (HCE.out w' hk).2.2.2.2
                    exact plan_do (by rfl) (plan_yield (i := 13) (V := fun _ _ v => v = (.int .u8 (ub.toNat : Int) : Value)) (.int .u8 (ub.toNat : Int)) (by go_simp) rfl hK)
                intro a w5 hk5 hdef hsz hv hfr _
                have e109 : a.tmps[109]?.getD undef = .slice (some ⟨gr, 0, none⟩) 512 cr := hv 7 109 (by omega) rfl
                have e110 : a.tmps[110]?.getD undef = .int .i64 (t : Nat) := hv 8 110 (by omega) rfl
                have e115 : a.tmps[115]?.getD undef = .int .u8 (ub.toNat : Int) := hv 13 115 (by omega) rfl
                have he := act_eq a _ [some 102, some 103, some 104, some 105, some 106, some 107, some 108, some 109, some 110, some 111, some 112, some 113, some 114, some 115, some 116, none] 118 rfl hsz hdef hfr (fun d => a.tmps[d]?.getD undef) (fun _ _ => rfl)
                obtain ⟨v102, h102⟩ : ∃ v, a.tmps[102]?.getD undef = v := ⟨_, rfl⟩
                obtain ⟨v103, h103⟩ : ∃ v, a.tmps[103]?.getD undef = v := ⟨_, rfl⟩
                obtain ⟨v104, h104⟩ : ∃ v, a.tmps[104]?.getD undef = v := ⟨_, rfl⟩
                obtain ⟨v105, h105⟩ : ∃ v, a.tmps[105]?.getD undef = v := ⟨_, rfl⟩
                obtain ⟨v106, h106⟩ : ∃ v, a.tmps[106]?.getD undef = v := ⟨_, rfl⟩
                obtain ⟨v107, h107⟩ : ∃ v, a.tmps[107]?.getD undef = v := ⟨_, rfl⟩
                obtain ⟨v108, h108⟩ : ∃ v, a.tmps[108]?.getD undef = v := ⟨_, rfl⟩
                obtain ⟨v111, h111⟩ : ∃ v, a.tmps[111]?.getD undef = v := ⟨_, rfl⟩
                obtain ⟨v112, h112⟩ : ∃ v, a.tmps[112]?.getD undef = v := ⟨_, rfl⟩
                obtain ⟨v113, h113⟩ : ∃ v, a.tmps[113]?.getD undef = v := ⟨_, rfl⟩
                obtain ⟨v114, h114⟩ : ∃ v, a.tmps[114]?.getD undef = v := ⟨_, rfl⟩
                obtain ⟨v116, h116⟩ : ∃ v, a.tmps[116]?.getD undef = v := ⟨_, rfl⟩
                simp only [putAll, h102, h103, h104, h105, h106, h107, h108, h111, h112, h113, h114, h116, e109, e110, e115, List.setIfInBounds_toArray, List.set_cons_zero, List.set_cons_succ] at he
                clear h102 h103 h104 h105 h106 h107 h108 h111 h112 h113 h114 h116 e109 e110 e115 hdef hsz hv hfr
                subst he
                have hp0 := RefAt.poke Lo m HMS.out gr cr t HTL.out ub _ (HRT.out.keep (S := fun _ => False) hk5 (fun _ _ e => e)) HGM.out
                rw [HNX.out HCD.out] at hp0
                have HP := Lib.hid hp0.1
                have HSP : Hid (Same w (w5.setCell ⟨gr, t, none⟩ (.int .u8 (ub.toNat : Int)))) := Lib.hid ((HST.out.trans hk5 (fun _ _ e => e)).trans hp0.2 (fun j hj e => by have := HGE.out; omega))
                have HOP := Lib.hid ((HOV.out.keep hk5 (fun e => e)).keep hp0.2 (fun e => HRB.out m HMS.out (by rw [HLM.out, e]; rfl)))
                obtain ⟨cl, fl⟩ := own_cell (own_keeps hk5 HGO.out (fun _ _ e => e)) t HTL.out
                clear hk5 hp0
                go_wp2
                go_roundw
                case rel => exact ⟨t + 1, by omega, by go_num, HP.out, HSP.out, HOP.out⟩
                case measure => simp [intOf]; omega
              · subst hf0
                by_cases hn : (t : Int) < nn
                · have HCD : Hid (sufC 2 nn t) := Lib.hid (by unfold sufC; omega)
                  go_wp2_with fail
                  refine wp_region_tail [[], [0], [1], [2], [], [4], [3, 5], [6], [], [], [9], [], [10, 11], [12], [7, 8, 0, 1, 2, 3, 4, 5, 6, 7, 8, 9, 10, 11, 12, 13], [14, 13, 0, 1, 2, 3, 4, 5, 6, 7, 8, 9, 10, 11, 12, 13]]
                    [some 102, some 103, some 104, some 105, some 106, some 107, some 108, some 109, some 110, some 111, some 112, some 113, some 114, some 115, some 116, none]
                    [.is (.pointer (some ⟨E, 0, none⟩)), .is (.pointer (some ⟨E, 0, none⟩)), .is (.pointer (some ⟨E, 0, none⟩)), .is (.slice (some ⟨ge, 0, none⟩) N ce), .is (.pointer (some ⟨B3, 0, none⟩)), .is (.int .i64 (m : Nat)), .is (.pointer (some ⟨ge, m, none⟩)), .is (.slice (some ⟨gr, 0, none⟩) 512 cr), .is (.int .i64 (t : Nat)), .is (.pointer (some ⟨B3, 1, none⟩)), .is (.slice (some ⟨gn, 0, none⟩) 512 cn), .is (.int .i64 (t : Nat)), .is (.pointer (some ⟨gn, t, none⟩)), .is (.int .u8 (ub.toNat : Int))]
                    (fun _ => False) [] (fun _ _ => True) 19 _ _ 118 14 16 (by kernel_rfl) (by rfl) (by rfl) (by omega) (by kernel_rfl) (by kernel_rfl) (by decide) (by decide) (fun _ e => e.elim) trivial (fun _ _ _ h _ => h) ?_ ?_
                  · refine ⟨?_, ?_, ?_, ?_, ?_, ?_, ?_, ?_, ?_, ?_, ?_, ?_, ?_, ?_, trivial⟩
                    · intro a w' K hk hdep hfr hK
                      have f := hfr 5 (by decide)
                      exact plan_do (by rfl) (plan_yield (i := 0) (V := fun _ _ v => v = (.pointer (some ⟨E, 0, none⟩) : Value)) (.pointer (some ⟨E, 0, none⟩)) (by go_simp) rfl hK)
                    · intro a w' K hk hdep hfr hK
                      have e102 : a.tmps[102]?.getD undef = (.pointer (some ⟨E, 0, none⟩)) := hdep 0 (by decide) 102 rfl
                      exact plan_do (by rfl) (plan_yield (i := 1) (V := fun _ _ v => v = (.pointer (some ⟨E, 0, none⟩) : Value)) (.pointer (some ⟨E, 0, none⟩)) (by go_simp) rfl hK)
                    · intro a w' K hk hdep hfr hK
                      have e103 : a.tmps[103]?.getD undef = (.pointer (some ⟨E, 0, none⟩)) := hdep 1 (by decide) 103 rfl
                      exact plan_do (by rfl) (plan_yield (i := 2) (V := fun _ _ v => v = (.pointer (some ⟨E, 0, none⟩) : Value)) (.pointer (some ⟨E, 0, none⟩)) (by go_simp) rfl hK)
                    · intro a w' K hk hdep hfr hK
                      have e104 : a.tmps[104]?.getD undef = (.pointer (some ⟨E, 0, none⟩)) := hdep 2 (by decide) 104 rfl
                      have cl := (HCE.out w' hk).1
                      exact plan_do (by rfl) (plan_yield (i := 3) (V := fun _ _ v => v = (.slice (some ⟨ge, 0, none⟩) N ce : Value)) (.slice (some ⟨ge, 0, none⟩) N ce) (by go_simp) rfl hK)
                    · intro a w' K hk hdep hfr hK
                      have f := hfr 13 (by decide)
                      exact plan_do (by rfl) (plan_yield (i := 4) (V := fun _ _ v => v = (.pointer (some ⟨B3, 0, none⟩) : Value)) (.pointer (some ⟨B3, 0, none⟩)) (by go_simp) rfl hK)
                    · intro a w' K hk hdep hfr hK
                      have e106 : a.tmps[106]?.getD undef = (.pointer (some ⟨B3, 0, none⟩)) := hdep 4 (by decide) 106 rfl
                      have cl := (HCE.out w' hk).2.1
                      exact plan_do (by rfl) (plan_yield (i := 5) (V := fun _ _ v => v = (.int .i64 (m : Nat) : Value)) (.int .i64 (m : Nat)) (by go_simp) rfl hK)
                    · intro a w' K hk hdep hfr hK
                      have e105 : a.tmps[105]?.getD undef = (.slice (some ⟨ge, 0, none⟩) N ce) := hdep 3 (by decide) 105 rfl
                      have e107 : a.tmps[107]?.getD undef = (.int .i64 (m : Nat)) := hdep 5 (by decide) 107 rfl
                      have hj := HMN.out
                      exact plan_do (by rfl) (plan_yield (i := 6) (V := fun _ _ v => v = (.pointer (some ⟨ge, m, none⟩) : Value)) (.pointer (some ⟨ge, m, none⟩)) (by go_simp) rfl hK)
                    · intro a w' K hk hdep hfr hK
                      have e108 : a.tmps[108]?.getD undef = (.pointer (some ⟨ge, m, none⟩)) := hdep 6 (by decide) 108 rfl
                      have cl := (HCE.out w' hk).2.2.1
                      exact plan_do (by rfl) (plan_yield (i := 7) (V := fun _ _ v => v = (.slice (some ⟨gr, 0, none⟩) 512 cr : Value)) (.slice (some ⟨gr, 0, none⟩) 512 cr) (by go_simp) rfl hK)
                    · intro a w' K hk hdep hfr hK
                      have f := hfr 14 (by decide)
                      exact plan_do (by rfl) (plan_yield (i := 8) (V := fun _ _ v => v = (.int .i64 (t : Nat) : Value)) (.int .i64 (t : Nat)) (by go_simp) rfl hK)
                    · intro a w' K hk hdep hfr hK
                      have f := hfr 13 (by decide)
                      exact plan_do (by rfl) (plan_yield (i := 9) (V := fun _ _ v => v = (.pointer (some ⟨B3, 1, none⟩) : Value)) (.pointer (some ⟨B3, 1, none⟩)) (by go_simp) rfl hK)
                    · intro a w' K hk hdep hfr hK
                      have e111 : a.tmps[111]?.getD undef = (.pointer (some ⟨B3, 1, none⟩)) := hdep 9 (by decide) 111 rfl
                      have cl := (HCE.out w' hk).2.2.2.1
                      exact plan_do (by rfl) (plan_yield (i := 10) (V := fun _ _ v => v = (.slice (some ⟨gn, 0, none⟩) 512 cn : Value)) (.slice (some ⟨gn, 0, none⟩) 512 cn) (by go_simp) rfl hK)
                    · intro a w' K hk hdep hfr hK
                      have f := hfr 14 (by decide)
                      exact plan_do (by rfl) (plan_yield (i := 11) (V := fun _ _ v => v = (.int .i64 (t : Nat) : Value)) (.int .i64 (t : Nat)) (by go_simp) rfl hK)
                    · intro a w' K hk hdep hfr hK
                      have e112 : a.tmps[112]?.getD undef = (.slice (some ⟨gn, 0, none⟩) 512 cn) := hdep 10 (by decide) 112 rfl
                      have e113 : a.tmps[113]?.getD undef = (.int .i64 (t : Nat)) := hdep 11 (by decide) 113 rfl
                      have ht := HTI.out
                      exact plan_do (by rfl) (plan_yield (i := 12) (V := fun _ _ v => v = (.pointer (some ⟨gn, t, none⟩) : Value)) (.pointer (some ⟨gn, t, none⟩)) (by go_simp) rfl hK)
                    · intro a w' K hk hdep hfr hK
                      have e114 : a.tmps[114]?.getD undef = (.pointer (some ⟨gn, t, none⟩)) := hdep 12 (by decide) 114 rfl
                      have cl := (HCE.out w' hk).2.2.2.2
                      exact plan_do (by rfl) (plan_yield (i := 13) (V := fun _ _ v => v = (.int .u8 (ub.toNat : Int) : Value)) (.int .u8 (ub.toNat : Int)) (by go_simp) rfl hK)
                  intro a w5 hk5 hdef hsz hv hfr _
                  have e109 : a.tmps[109]?.getD undef = .slice (some ⟨gr, 0, none⟩) 512 cr := hv 7 109 (by omega) rfl
                  have e110 : a.tmps[110]?.getD undef = .int .i64 (t : Nat) := hv 8 110 (by omega) rfl
                  have e115 : a.tmps[115]?.getD undef = .int .u8 (ub.toNat : Int) := hv 13 115 (by omega) rfl
                  have he := act_eq a _ [some 102, some 103, some 104, some 105, some 106, some 107, some 108, some 109, some 110, some 111, some 112, some 113, some 114, some 115, some 116, none] 118 rfl hsz hdef hfr (fun d => a.tmps[d]?.getD undef) (fun _ _ => rfl)
                  obtain ⟨v102, h102⟩ : ∃ v, a.tmps[102]?.getD undef = v := ⟨_, rfl⟩
                  obtain ⟨v103, h103⟩ : ∃ v, a.tmps[103]?.getD undef = v := ⟨_, rfl⟩
                  obtain ⟨v104, h104⟩ : ∃ v, a.tmps[104]?.getD undef = v := ⟨_, rfl⟩
                  obtain ⟨v105, h105⟩ : ∃ v, a.tmps[105]?.getD undef = v := ⟨_, rfl⟩
                  obtain ⟨v106, h106⟩ : ∃ v, a.tmps[106]?.getD undef = v := ⟨_, rfl⟩
                  obtain ⟨v107, h107⟩ : ∃ v, a.tmps[107]?.getD undef = v := ⟨_, rfl⟩
                  obtain ⟨v108, h108⟩ : ∃ v, a.tmps[108]?.getD undef = v := ⟨_, rfl⟩
                  obtain ⟨v111, h111⟩ : ∃ v, a.tmps[111]?.getD undef = v := ⟨_, rfl⟩
                  obtain ⟨v112, h112⟩ : ∃ v, a.tmps[112]?.getD undef = v := ⟨_, rfl⟩
                  obtain ⟨v113, h113⟩ : ∃ v, a.tmps[113]?.getD undef = v := ⟨_, rfl⟩
                  obtain ⟨v114, h114⟩ : ∃ v, a.tmps[114]?.getD undef = v := ⟨_, rfl⟩
                  obtain ⟨v116, h116⟩ : ∃ v, a.tmps[116]?.getD undef = v := ⟨_, rfl⟩
                  simp only [putAll, h102, h103, h104, h105, h106, h107, h108, h111, h112, h113, h114, h116, e109, e110, e115, List.setIfInBounds_toArray, List.set_cons_zero, List.set_cons_succ] at he
                  clear h102 h103 h104 h105 h106 h107 h108 h111 h112 h113 h114 h116 e109 e110 e115 hdef hsz hv hfr
                  subst he
                  have hp0 := RefAt.poke Lo m HMS.out gr cr t HTL.out ub _ (HRT.out.keep (S := fun _ => False) hk5 (fun _ _ e => e)) HGM.out
                  rw [HNX.out HCD.out] at hp0
                  have HP := Lib.hid hp0.1
                  have HSP : Hid (Same w (w5.setCell ⟨gr, t, none⟩ (.int .u8 (ub.toNat : Int)))) := Lib.hid ((HST.out.trans hk5 (fun _ _ e => e)).trans hp0.2 (fun j hj e => by have := HGE.out; omega))
                  have HOP := Lib.hid ((HOV.out.keep hk5 (fun e => e)).keep hp0.2 (fun e => HRB.out m HMS.out (by rw [HLM.out, e]; rfl)))
                  obtain ⟨cl, fl⟩ := own_cell (own_keeps hk5 HGO.out (fun _ _ e => e)) t HTL.out
                  clear hk5 hp0
                  go_wp2
                  go_roundw
                  case rel => exact ⟨t + 1, by omega, by go_num, HP.out, HSP.out, HOP.out⟩
                  case measure => simp [intOf]; omega
                · have HCD : Hid (¬ sufC 2 nn t) := Lib.hid (by unfold sufC; omega)
                  have hmr := HRT.out
                  rw [HNY.out HCD.out] at hmr
                  have HMR := Lib.hid hmr
                  clear hmr
                  go_wp2
                  go_roundw
                  case rel => exact ⟨t + 1, by omega, by go_num, HMR.out, HST.out, HOV.out⟩
                  case measure => simp [intOf]; omega
              · subst hf0
                by_cases hn : (t : Int) ≥ nn
                · have HCD : Hid (sufC 3 nn t) := Lib.hid (by unfold sufC; omega)
                  go_wp2_with fail
                  refine wp_region_tail [[], [0], [1], [2], [], [4], [3, 5], [6], [], [], [9], [], [10, 11], [12], [7, 8, 0, 1, 2, 3, 4, 5, 6, 7, 8, 9, 10, 11, 12, 13], [14, 13, 0, 1, 2, 3, 4, 5, 6, 7, 8, 9, 10, 11, 12, 13]]
                    [some 102, some 103, some 104, some 105, some 106, some 107, some 108, some 109, some 110, some 111, some 112, some 113, some 114, some 115, some 116, none]
                    [.is (.pointer (some ⟨E, 0, none⟩)), .is (.pointer (some ⟨E, 0, none⟩)), .is (.pointer (some ⟨E, 0, none⟩)), .is (.slice (some ⟨ge, 0, none⟩) N ce), .is (.pointer (some ⟨B3, 0, none⟩)), .is (.int .i64 (m : Nat)), .is (.pointer (some ⟨ge, m, none⟩)), .is (.slice (some ⟨gr, 0, none⟩) 512 cr), .is (.int .i64 (t : Nat)), .is (.pointer (some ⟨B3, 1, none⟩)), .is (.slice (some ⟨gn, 0, none⟩) 512 cn), .is (.int .i64 (t : Nat)), .is (.pointer (some ⟨gn, t, none⟩)), .is (.int .u8 (ub.toNat : Int))]
                    (fun _ => False) [] (fun _ _ => True) 19 _ _ 118 14 16 (by kernel_rfl) (by rfl) (by rfl) (by omega) (by kernel_rfl) (by kernel_rfl) (by decide) (by decide) (fun _ e => e.elim) trivial (fun _ _ _ h _ => h) ?_ ?_
                  · refine ⟨?_, ?_, ?_, ?_, ?_, ?_, ?_, ?_, ?_, ?_, ?_, ?_, ?_, ?_, trivial⟩
                    · intro a w' K hk hdep hfr hK
                      have f := hfr 5 (by decide)
                      exact plan_do (by rfl) (plan_yield (i := 0) (V := fun _ _ v => v = (.pointer (some ⟨E, 0, none⟩) : Value)) (.pointer (some ⟨E, 0, none⟩)) (by go_simp) rfl hK)
                    · intro a w' K hk hdep hfr hK
                      have e102 : a.tmps[102]?.getD undef = (.pointer (some ⟨E, 0, none⟩)) := hdep 0 (by decide) 102 rfl
                      exact plan_do (by rfl) (plan_yield (i := 1) (V := fun _ _ v => v = (.pointer (some ⟨E, 0, none⟩) : Value)) (.pointer (some ⟨E, 0, none⟩)) (by go_simp) rfl hK)
                    · intro a w' K hk hdep hfr hK
                      have e103 : a.tmps[103]?.getD undef = (.pointer (some ⟨E, 0, none⟩)) := hdep 1 (by decide) 103 rfl
                      exact plan_do (by rfl) (plan_yield (i := 2) (V := fun _ _ v => v = (.pointer (some ⟨E, 0, none⟩) : Value)) (.pointer (some ⟨E, 0, none⟩)) (by go_simp) rfl hK)
                    · intro a w' K hk hdep hfr hK
                      have e104 : a.tmps[104]?.getD undef = (.pointer (some ⟨E, 0, none⟩)) := hdep 2 (by decide) 104 rfl
                      have cl := (HCE.out w' hk).1
                      exact plan_do (by rfl) (plan_yield (i := 3) (V := fun _ _ v => v = (.slice (some ⟨ge, 0, none⟩) N ce : Value)) (.slice (some ⟨ge, 0, none⟩) N ce) (by go_simp) rfl hK)
                    · intro a w' K hk hdep hfr hK
                      have f := hfr 13 (by decide)
                      exact plan_do (by rfl) (plan_yield (i := 4) (V := fun _ _ v => v = (.pointer (some ⟨B3, 0, none⟩) : Value)) (.pointer (some ⟨B3, 0, none⟩)) (by go_simp) rfl hK)
                    · intro a w' K hk hdep hfr hK
                      have e106 : a.tmps[106]?.getD undef = (.pointer (some ⟨B3, 0, none⟩)) := hdep 4 (by decide) 106 rfl
                      have cl := (HCE.out w' hk).2.1
                      exact plan_do (by rfl) (plan_yield (i := 5) (V := fun _ _ v => v = (.int .i64 (m : Nat) : Value)) (.int .i64 (m : Nat)) (by go_simp) rfl hK)
                    · intro a w' K hk hdep hfr hK
                      have e105 : a.tmps[105]?.getD undef = (.slice (some ⟨ge, 0, none⟩) N ce) := hdep 3 (by decide) 105 rfl
                      have e107 : a.tmps[107]?.getD undef = (.int .i64 (m : Nat)) := hdep 5 (by decide) 107 rfl
                      have hj := HMN.out
                      exact plan_do (by rfl) (plan_yield (i := 6) (V := fun _ _ v => v = (.pointer (some ⟨ge, m, none⟩) : Value)) (.pointer (some ⟨ge, m, none⟩)) (by go_simp) rfl hK)
                    · intro a w' K hk hdep hfr hK
                      have e108 : a.tmps[108]?.getD undef = (.pointer (some ⟨ge, m, none⟩)) := hdep 6 (by decide) 108 rfl
                      have cl := (HCE.out w' hk).2.2.1
                      exact plan_do (by rfl) (plan_yield (i := 7) (V := fun _ _ v => v = (.slice (some ⟨gr, 0, none⟩) 512 cr : Value)) (.slice (some ⟨gr, 0, none⟩) 512 cr) (by go_simp) rfl hK)
                    · intro a w' K hk hdep hfr hK
                      have f := hfr 14 (by decide)
                      exact plan_do (by rfl) (plan_yield (i := 8) (V := fun _ _ v => v = (.int .i64 (t : Nat) : Value)) (.int .i64 (t : Nat)) (by go_simp) rfl hK)
                    · intro a w' K hk hdep hfr hK
                      have f := hfr 13 (by decide)
                      exact plan_do (by rfl) (plan_yield (i := 9) (V := fun _ _ v => v = (.pointer (some ⟨B3, 1, none⟩) : Value)) (.pointer (some ⟨B3, 1, none⟩)) (by go_simp) rfl hK)
                    · intro a w' K hk hdep hfr hK
                      have e111 : a.tmps[111]?.getD undef = (.pointer (some ⟨B3, 1, none⟩)) := hdep 9 (by decide) 111 rfl
                      have cl := (HCE.out w' hk).2.2.2.1
                      exact plan_do (by rfl) (plan_yield (i := 10) (V := fun _ _ v => v = (.slice (some ⟨gn, 0, none⟩) 512 cn : Value)) (.slice (some ⟨gn, 0, none⟩) 512 cn) (by go_simp) rfl hK)
                    · intro a w' K hk hdep hfr hK
                      have f := hfr 14 (by decide)
                      exact plan_do (by rfl) (plan_yield (i := 11) (V := fun _ _ v => v = (.int .i64 (t : Nat) : Value)) (.int .i64 (t : Nat)) (by go_simp) rfl hK)
                    · intro a w' K hk hdep hfr hK
                      have e112 : a.tmps[112]?.getD undef = (.slice (some ⟨gn, 0, none⟩) 512 cn) := hdep 10 (by decide) 112 rfl
                      have e113 : a.tmps[113]?.getD undef = (.int .i64 (t : Nat)) := hdep 11 (by decide) 113 rfl
                      have ht := HTI.out
                      exact plan_do (by rfl) (plan_yield (i := 12) (V := fun _ _ v => v = (.pointer (some ⟨gn, t, none⟩) : Value)) (.pointer (some ⟨gn, t, none⟩)) (by go_simp) rfl hK)
                    · intro a w' K hk hdep hfr hK
                      have e114 : a.tmps[114]?.getD undef = (.pointer (some ⟨gn, t, none⟩)) := hdep 12 (by decide) 114 rfl
                      have cl := (HCE.out w' hk).2.2.2.2
                      exact plan_do (by rfl) (plan_yield (i := 13) (V := fun _ _ v => v = (.int .u8 (ub.toNat : Int) : Value)) (.int .u8 (ub.toNat : Int)) (by go_simp) rfl hK)
                  intro a w5 hk5 hdef hsz hv hfr _
                  have e109 : a.tmps[109]?.getD undef = .slice (some ⟨gr, 0, none⟩) 512 cr := hv 7 109 (by omega) rfl
                  have e110 : a.tmps[110]?.getD undef = .int .i64 (t : Nat) := hv 8 110 (by omega) rfl
                  have e115 : a.tmps[115]?.getD undef = .int .u8 (ub.toNat : Int) := hv 13 115 (by omega) rfl
                  have he := act_eq a _ [some 102, some 103, some 104, some 105, some 106, some 107, some 108, some 109, some 110, some 111, some 112, some 113, some 114, some 115, some 116, none] 118 rfl hsz hdef hfr (fun d => a.tmps[d]?.getD undef) (fun _ _ => rfl)
                  obtain ⟨v102, h102⟩ : ∃ v, a.tmps[102]?.getD undef = v := ⟨_, rfl⟩
                  obtain ⟨v103, h103⟩ : ∃ v, a.tmps[103]?.getD undef = v := ⟨_, rfl⟩
                  obtain ⟨v104, h104⟩ : ∃ v, a.tmps[104]?.getD undef = v := ⟨_, rfl⟩
                  obtain ⟨v105, h105⟩ : ∃ v, a.tmps[105]?.getD undef = v := ⟨_, rfl⟩
                  obtain ⟨v106, h106⟩ : ∃ v, a.tmps[106]?.getD undef = v := ⟨_, rfl⟩
                  obtain ⟨v107, h107⟩ : ∃ v, a.tmps[107]?.getD undef = v := ⟨_, rfl⟩
                  obtain ⟨v108, h108⟩ : ∃ v, a.tmps[108]?.getD undef = v := ⟨_, rfl⟩
                  obtain ⟨v111, h111⟩ : ∃ v, a.tmps[111]?.getD undef = v := ⟨_, rfl⟩
                  obtain ⟨v112, h112⟩ : ∃ v, a.tmps[112]?.getD undef = v := ⟨_, rfl⟩
                  obtain ⟨v113, h113⟩ : ∃ v, a.tmps[113]?.getD undef = v := ⟨_, rfl⟩
                  obtain ⟨v114, h114⟩ : ∃ v, a.tmps[114]?.getD undef = v := ⟨_, rfl⟩
                  obtain ⟨v116, h116⟩ : ∃ v, a.tmps[116]?.getD undef = v := ⟨_, rfl⟩
                  simp only [putAll, h102, h103, h104, h105, h106, h107, h108, h111, h112, h113, h114, h116, e109, e110, e115, List.setIfInBounds_toArray, List.set_cons_zero, List.set_cons_succ] at he
                  clear h102 h103 h104 h105 h106 h107 h108 h111 h112 h113 h114 h116 e109 e110 e115 hdef hsz hv hfr
                  subst he
                  have hp0 := RefAt.poke Lo m HMS.out gr cr t HTL.out ub _ (HRT.out.keep (S := fun _ => False) hk5 (fun _ _ e => e)) HGM.out
                  rw [HNX.out HCD.out] at hp0
                  have HP := Lib.hid hp0.1
                  have HSP : Hid (Same w (w5.setCell ⟨gr, t, none⟩ (.int .u8 (ub.toNat : Int)))) := Lib.hid ((HST.out.trans hk5 (fun _ _ e => e)).trans hp0.2 (fun j hj e => by have := HGE.out; omega))
                  have HOP := Lib.hid ((HOV.out.keep hk5 (fun e => e)).keep hp0.2 (fun e => HRB.out m HMS.out (by rw [HLM.out, e]; rfl)))
                  obtain ⟨cl, fl⟩ := own_cell (own_keeps hk5 HGO.out (fun _ _ e => e)) t HTL.out
                  clear hk5 hp0
                  go_wp2
                  go_roundw
                  case rel => exact ⟨t + 1, by omega, by go_num, HP.out, HSP.out, HOP.out⟩
                  case measure => simp [intOf]; omega
                · have HCD : Hid (¬ sufC 3 nn t) := Lib.hid (by unfold sufC; omega)
                  have hmr := HRT.out
                  rw [HNY.out HCD.out] at hmr
                  have HMR := Lib.hid hmr
                  clear hmr
                  go_wp2
                  go_roundw
                  case rel => exact ⟨t + 1, by omega, by go_num, HMR.out, HST.out, HOV.out⟩
                  case measure => simp [intOf]; omega
            · have ht2 : ¬ (t : Int) < 512 := by omega
              obtain rfl : t = 512 := by omega
              have HFIN : Hid (OutI w wr E (.slice (some ⟨ge, 0, none⟩) N ce) (Lo.set m (.slice (some ⟨gr, 0, none⟩) 512 cr, suffered old nb zf)) ∧ (Lo.set m ((.slice (some ⟨gr, 0, none⟩) 512 cr : Value), suffered old nb zf)).map Prod.snd = crashedTo s.L s.O fs (k + 1)) := Lib.hid (by
                have h := HRT.out
                rw [← HF4.out, ← HN5.out, ← HQ4.out, sufK_end old nb zf HOLD.out HNBL.out] at h
                refine ⟨?_, by rw [List.map_set, HM.out]; exact HSTEP.out.symm⟩
                have h2 := HOC.out.set m HMS.out (suffered old nb zf) (w2 := wr) (by rw [HLM.out]; exact h) HST.out
                rw [HLM.out] at h2
                exact h2)
              go_wp2
              go_roundw
              case rel => exact ⟨k + 1, _, _, by omega, by go_num, HFIN.out.1, by rw [List.length_set]; exact HLN.out, HFIN.out.2⟩
              case measure => simp [intOf]; omega
      · have hlt2 : ¬ (k : Int) < (O.length : Int) := by omega
        obtain rfl : k = O.length := by omega
        have HEND : Hid (Rk (FootR E lv (.slice none 0 0) Lo []) wr E (s.crashed fs)) := Lib.hid ⟨lv, .slice none 0 0, Lo, [], HO.out.ref, rfl, by
          rw [HM.out]
          have h2 : s.O.length = O.length := by rw [← HE2.out, List.length_map]
          unfold crashedTo DSt.crashed
          rw [List.take_of_length_le (by rw [List.length_zip]; omega)], rfl⟩
        have HGE : Hid (∀ k, FootR E lv (.slice none 0 0) Lo [] k → w.heap.size ≤ k) := Lib.hid (fun k e => by
          rcases e with e | e | e | ⟨p, hp, e⟩ | ⟨o, ho, e⟩
          · have := HEE.out; omega
          · exact HO.out.lvE k e
          · simp [Value.ownBlock] at e
          · obtain ⟨j, hj, rfl⟩ := List.mem_iff_getElem.1 hp
            exact HO.out.rows j hj k e
          · simp at ho)
        go_wp2
        go_ret
        exact ⟨E, rfl, _, HEND.out, HO.out.same, HGE.out⟩
end Go.Proofs.Ytoimhniijeafaaa
