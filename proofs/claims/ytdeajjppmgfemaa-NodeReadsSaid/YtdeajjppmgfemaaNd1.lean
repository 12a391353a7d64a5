/- Nodes: kids as they lie, what nodes are as bytes. No program is named here. -/
import Derived.Test.YtdeajjppmgfemaaCodec
import Derived.Test.YtdeajjppmgfemaaCopy
import Derived.Deep.MidRow
namespace Go.Proofs.Ytdeajjppmgfemaa
open Go.RowKit
set_option linter.unusedVariables false

/-- A kid: the slice of its first key, that key, its digest. -/
structure KidX where
  fv : Value
  fs : List UInt8
  hs : List UInt8
def KidX.cells (k : KidX) : List Value := k.fv :: u8s k.hs
theorem KidX.cells_length (k : KidX) (h : k.hs.length = 32) : k.cells.length = 33 := by simp [KidX.cells, u8s_length, h]
structure KidAt (w : World) (g off : Nat) (k : KidX) : Prop where
  ra : w.rangeAt g off k.cells
  bf : Bytes w k.fv k.fs
  sf : ∀ a n c, k.fv = .slice (some a) n c → k.fs ≠ [] → a.spot = none
  hl : k.hs.length = 32
def Kids (w : World) (ao : Option Addr) (ks : List KidX) : Prop := ks = [] ∨ ∃ g off, ao = some ⟨g, off, none⟩ ∧ ∀ j (h : j < ks.length), KidAt w g (off + j * 33) ks[j]
theorem range_same {w w' : World} {g o : Nat} {cs : List Value} (h : w.rangeAt g o cs) (k : Same w w') : w'.rangeAt g o cs := fun j v hj => by
  have h1 := h j v hj
  have hb := World.block_lt_of_cell? w _ h1
  exact (World.cell?_of_block (w := w) (a := ⟨g, o + j, none⟩) (k.block g hb (fun e => e))).trans h1
theorem KidAt.same {w w' : World} {g off : Nat} {p : KidX} (h : KidAt w g off p) (k : Same w w') : KidAt w' g off p := ⟨range_same h.ra k, h.bf.same k, h.sf, h.hl⟩
theorem Kids.same {w w' : World} {ao : Option Addr} {ks : List KidX} (h : Kids w ao ks) (k : Same w w') : Kids w' ao ks := by
  rcases h with h | ⟨g, off, e, h⟩
  · exact .inl h
  · exact .inr ⟨g, off, e, fun j hj => (h j hj).same k⟩
theorem KidAt.cell0 {w : World} {g off : Nat} {p : KidX} (h : KidAt w g off p) : w.cell? ⟨g, off, none⟩ = some p.fv := h.ra 0 _ rfl
theorem KidAt.hash {w : World} {g off : Nat} {p : KidX} (h : KidAt w g off p) (c : Nat) : Bytes w (.slice (some ⟨g, off + 1, none⟩) 32 c) p.hs := by
  rw [← h.hl]
  refine .inl ⟨_, c, rfl, fun j u hu => ?_⟩
  rw [add_at, Nat.add_assoc, Nat.add_comm 1 j]
  exact h.ra (j + 1) u (by simpa [KidX.cells] using hu)
theorem Kids.at {w : World} {ao : Option Addr} {ks : List KidX} (h : Kids w ao ks) {j : Nat} (hj : j < ks.length) :
    ∃ g off fo fc, ao = some ⟨g, off, none⟩ ∧ ks[j].fv = .slice fo ks[j].fs.length fc ∧ KidAt w g (off + j * 33) ks[j] := by
  rcases h with h | ⟨g, off, e, h⟩
  · subst h; simp at hj
  · obtain ⟨fo, fc, e2⟩ := (h j hj).bf.form
    exact ⟨g, off, fo, fc, e, e2, h j hj⟩
def kks (ks : List KidX) : List (List UInt8 × List UInt8) := ks.map fun k => (k.fs, k.hs)
theorem kks_length (ks : List KidX) : (kks ks).length = ks.length := by simp [kks]
def kflat (ks : List KidX) : List Value := ks.flatMap KidX.cells
theorem kflat_length (ks : List KidX) (h : ∀ k ∈ ks, k.hs.length = 32) : (kflat ks).length = ks.length * 33 := by
  unfold kflat
  induction ks with
  | nil => rfl
  | cons q r ih => simp only [List.flatMap_cons, List.length_append, List.length_cons]; rw [ih (fun k hk => h k (by simp [hk])), q.cells_length (h q (by simp))]; omega
theorem kflat_get (ks : List KidX) (h : ∀ k ∈ ks, k.hs.length = 32) : ∀ (j : Nat) (hj : j < ks.length) (i : Nat) (v : Value), ks[j].cells[i]? = some v → (kflat ks)[j * 33 + i]? = some v := by
  unfold kflat
  induction ks with
  | nil => intro j hj; simp at hj
  | cons q r ih =>
    intro j hj i v hv
    have hq := q.cells_length (h q (by simp))
    rcases j with _ | j
    · simp only [List.getElem_cons_zero] at hv
      have hi := (List.getElem?_eq_some_iff.1 hv).1
      rw [List.flatMap_cons, Nat.zero_mul, Nat.zero_add, List.getElem?_append_left hi]; exact hv
    · have := ih (fun k hk => h k (by simp [hk])) j (by simpa using hj) i v (by simpa using hv)
      rw [List.flatMap_cons, List.getElem?_append_right (by omega), hq, show (j + 1) * 33 + i - 33 = j * 33 + i from by omega]
      exact this

/-- How a pair is written, and a kid. -/
def codecP : Codec (List UInt8 × List UInt8) := codecT.pair codecT
def codecK : Codec (List UInt8 × List UInt8) := codecT.pair (codecR 32 (by omega))
def nodeB (lv : Nat) (ps ks : List (List UInt8 × List UInt8)) : List UInt8 := be 84 1 ++ (be lv 1 ++ (be (ps.length + ks.length) 1 ++ (ps.flatMap codecP.enc ++ ks.flatMap codecK.enc)))
def Rises (l : List (List UInt8)) : Prop := ∀ (j : Nat) (a b : List UInt8), l[j]? = some a → l[j + 1]? = some b → Op.bytesLess a b = true
def NRight (lv : Int) (ps ks : List (List UInt8 × List UInt8)) : Prop :=
  (0 ≤ lv ∧ lv ≤ 15) ∧ (lv = 0 → ks = [] ∧ ps.length ≤ 255 ∧ Rises (ps.map (·.1))) ∧ (lv ≠ 0 → ps = [] ∧ (1 ≤ ks.length ∧ ks.length ≤ 4) ∧ Rises (ks.map (·.1)))
theorem NRight.count {lv : Int} {ps ks : List (List UInt8 × List UInt8)} (h : NRight lv ps ks) : ps.length + ks.length ≤ 255 := by
  by_cases h0 : lv = 0
  · obtain ⟨rfl, h1, _⟩ := h.2.1 h0; simpa using h1
  · obtain ⟨rfl, h1, _⟩ := h.2.2 h0; simp; omega
def NFit (lv : Int) (ps ks : List (List UInt8 × List UInt8)) : Prop := NRight lv ps ks ∧ (∀ k ∈ ks, k.2.length = 32) ∧ (nodeB lv.toNat ps ks).length ≤ 470
/-- What bytes are as a node, and the error's number. -/
def NodeIs (bs : List UInt8) (lv : Int) (ps ks : List (List UInt8 × List UInt8)) (er : Int) : Prop :=
  (NFit lv ps ks ∧ nodeB lv.toNat ps ks = bs ∧ er = 0) ∨ ((∀ lv ps ks, NFit lv ps ks → nodeB lv.toNat ps ks ≠ bs) ∧ lv = 0 ∧ ps = [] ∧ ks = [] ∧ er = 22)

theorem encP_len (x : List UInt8 × List UInt8) : (codecP.enc x).length = 4 + x.1.length + x.2.length := by
  show (encT x.1 ++ encT x.2).length = _
  rw [List.length_append, encT_len, encT_len]; omega
theorem encK_len (x : List UInt8 × List UInt8) : (codecK.enc x).length = 2 + x.1.length + x.2.length := by
  show (encT x.1 ++ x.2).length = _
  rw [List.length_append, encT_len]
theorem flat_mem_le {α : Type} (f : α → List UInt8) (l : List α) (x : α) (h : x ∈ l) : (f x).length ≤ (l.flatMap f).length := by
  induction l with
  | nil => simp at h
  | cons y r ih =>
    rw [List.flatMap_cons, List.length_append]
    rcases List.mem_cons.1 h with rfl | h
    · omega
    · have := ih h; omega
theorem nodeB_len (lv : Nat) (ps ks : List (List UInt8 × List UInt8)) : (nodeB lv ps ks).length = 3 + (ps.flatMap codecP.enc).length + (ks.flatMap codecK.enc).length := by
  simp only [nodeB, List.length_append, be_length]; omega
theorem nodeB_ok {lv : Nat} {ps ks : List (List UInt8 × List UInt8)} (h : (nodeB lv ps ks).length ≤ 470) (hk : ∀ k ∈ ks, k.2.length = 32) : (∀ x ∈ ps, codecP.ok x) ∧ ∀ x ∈ ks, codecK.ok x := by
  rw [nodeB_len] at h
  refine ⟨fun x hx => ?_, fun x hx => ?_⟩
  · have h1 := flat_mem_le codecP.enc ps x hx
    rw [encP_len] at h1
    exact ⟨show x.1.length ≤ 65535 by omega, show x.2.length ≤ 65535 by omega⟩
  · have h1 := flat_mem_le codecK.enc ks x hx
    rw [encK_len] at h1
    exact ⟨show x.1.length ≤ 65535 by omega, hk x hx⟩
/-- A node's bytes are read as its parts. -/
theorem rd_of_node {bs : List UInt8} {lv : Int} {ps ks : List (List UInt8 × List UInt8)} (h : NFit lv ps ks) (hb : nodeB lv.toNat ps ks = bs) :
    (bs.length ≤ 470 ∧ 3 ≤ bs.length) ∧ (numTo bs 0 1 = 1 ∧ numTo bs 1 1 = 2 ∧ numTo bs 2 1 = 3) ∧ numAt bs 0 1 = 84 ∧ (numAt bs 1 1 : Int) = lv ∧ numAt bs 2 1 = ps.length + ks.length ∧
      (lv = 0 → ks = [] ∧ many (codecP.part bs) (numAt bs 2 1) 3 = some (ps, bs.length)) ∧ (lv ≠ 0 → ps = [] ∧ many (codecK.part bs) (numAt bs 2 1) 3 = some (ks, bs.length)) := by
  obtain ⟨hr, hh, hl⟩ := h
  obtain ⟨ok1, ok2⟩ := nodeB_ok hl hh
  have hc := hr.count
  have hlv := hr.1
  rw [hb] at hl
  have h3 : 3 ≤ bs.length := by rw [← hb, nodeB_len]; omega
  have b0 : bs.drop 0 = be 84 1 ++ (be lv.toNat 1 ++ (be (ps.length + ks.length) 1 ++ (ps.flatMap codecP.enc ++ ks.flatMap codecK.enc))) := by rw [List.drop_zero, ← hb]; rfl
  obtain ⟨c1, d1, e1, f1⟩ := num_of b0 (by omega) (by omega)
  obtain ⟨c2, d2, e2, f2⟩ := num_of e1 (by omega) (by omega)
  obtain ⟨c3, d3, e3, f3⟩ := num_of e2 (by omega) (by omega)
  simp only [Nat.zero_add, Nat.reduceAdd] at c2 d1 d2 e2 c3 d3 e3
  refine ⟨⟨hl, h3⟩, ⟨d1, d2, d3⟩, c1, by rw [c2]; omega, c3, fun h0 => ?_, fun h0 => ?_⟩
  · obtain ⟨rfl, _, _⟩ := hr.2.1 h0
    refine ⟨rfl, ?_⟩
    rw [c3]
    have := many_fit codecP bs 3 h3 ps [] (by rw [e3]; simp) ok1
    simp only [List.length_nil, Nat.add_zero]
    rw [this, ← hb, nodeB_len]
    simp
  · obtain ⟨rfl, _, _⟩ := hr.2.2 h0
    refine ⟨rfl, ?_⟩
    rw [c3]
    have := many_fit codecK bs 3 h3 ks [] (by rw [e3]; simp) ok2
    simp only [List.length_nil, Nat.zero_add]
    rw [this, ← hb, nodeB_len]
    simp
/-- Bytes that were read whole are the node's. -/
theorem node_of_rd {bs : List UInt8} {lv : Nat} {ps ks : List (List UInt8 × List UInt8)} (h3 : 3 ≤ bs.length) (h0 : numAt bs 0 1 = 84) (h1 : numAt bs 1 1 = lv)
    (hm : (ks = [] ∧ many (codecP.part bs) (numAt bs 2 1) 3 = some (ps, bs.length)) ∨ (ps = [] ∧ many (codecK.part bs) (numAt bs 2 1) 3 = some (ks, bs.length))) : nodeB lv ps ks = bs := by
  have s1 := num_split (bs := bs) (i := 0) (n := 1) (by omega)
  have s2 := num_split (bs := bs) (i := 1) (n := 1) (by omega)
  have s3 := num_split (bs := bs) (i := 2) (n := 1) (by omega)
  rw [h0] at s1
  rw [h1] at s2
  simp only [Nat.zero_add, Nat.reduceAdd, List.drop_zero] at s1 s2 s3
  unfold nodeB
  rcases hm with ⟨rfl, hm⟩ | ⟨rfl, hm⟩
  · have hn := many_len _ hm
    obtain ⟨e, _, _, _⟩ := many_split codecP bs 3 h3 _ hm
    rw [List.drop_of_length_le (Nat.le_refl _), List.append_nil] at e
    rw [List.length_nil, Nat.add_zero, hn, List.flatMap_nil, List.append_nil, ← e, ← s3, ← s2, ← s1]
  · have hn := many_len _ hm
    obtain ⟨e, _, _, _⟩ := many_split codecK bs 3 h3 _ hm
    rw [List.drop_of_length_le (Nat.le_refl _), List.append_nil] at e
    rw [List.length_nil, Nat.zero_add, hn, List.flatMap_nil, List.nil_append, ← e, ← s3, ← s2, ← s1]
theorem node_inj {lv lv' : Int} {ps ks ps' ks' : List (List UInt8 × List UInt8)} (h : NFit lv ps ks) (h' : NFit lv' ps' ks') (he : nodeB lv.toNat ps ks = nodeB lv'.toNat ps' ks') : lv = lv' ∧ ps = ps' ∧ ks = ks' := by
  obtain ⟨_, _, _, a1, _, a2, a3⟩ := rd_of_node h rfl
  obtain ⟨_, _, _, b1, _, b2, b3⟩ := rd_of_node h' he.symm
  have hl : lv = lv' := by omega
  subst hl
  by_cases h0 : lv = 0
  · obtain ⟨rfl, e1⟩ := a2 h0
    obtain ⟨rfl, e2⟩ := b2 h0
    rw [e1] at e2
    simp only [Option.some.injEq, Prod.mk.injEq] at e2
    exact ⟨rfl, e2.1, rfl⟩
  · obtain ⟨rfl, e1⟩ := a3 h0
    obtain ⟨rfl, e2⟩ := b3 h0
    rw [e1] at e2
    simp only [Option.some.injEq, Prod.mk.injEq] at e2
    exact ⟨rfl, rfl, e2.1⟩
end Go.Proofs.Ytdeajjppmgfemaa
