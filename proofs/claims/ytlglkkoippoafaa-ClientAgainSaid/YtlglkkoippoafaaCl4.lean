/- Rows of messages that a call makes one by one. -/
import Derived.Test.YtlglkkoippoafaaCl3
import Derived.Deep.AppendLies
namespace Go.Proofs.Ytlglkkoippoafaa
open Go.RowKit
set_option linter.unusedVariables false

/-- The bytes of a message's operation lie elsewhere than the row. -/
def OpFar (base : Nat) (row : Option Nat) (m : Msg) : Prop := ∀ a, m.oo = some a → m.od ≠ [] → row ≠ some a.block ∧ base ≤ a.block
def mflat (ms : List Msg) : List Value := ms.flatMap Msg.cells
theorem mflat_len (ms : List Msg) (h : ∀ m ∈ ms, m.hd.length = 32) : (mflat ms).length = ms.length * 53 := by
  unfold mflat
  induction ms with
  | nil => rfl
  | cons m r ih =>
    rw [List.flatMap_cons, List.length_append, m.cells_length (h m (by simp)), ih (fun k hk => h k (by simp [hk])), List.length_cons]
    omega
theorem mflat_get (ms : List Msg) (h : ∀ m ∈ ms, m.hd.length = 32) : ∀ (j : Nat) (hj : j < ms.length) (i : Nat) (v : Value), ms[j].cells[i]? = some v → (mflat ms)[j * 53 + i]? = some v := by
  unfold mflat
  induction ms with
  | nil => intro j hj; simp at hj
  | cons q r ih =>
    intro j hj i v hv
    have hq := q.cells_length (h q (by simp))
    rcases j with _ | j
    · simp only [List.getElem_cons_zero] at hv
      have hi := (List.getElem?_eq_some_iff.1 hv).1
      rw [List.flatMap_cons, Nat.zero_mul, Nat.zero_add, List.getElem?_append_left hi]; exact hv
    · have := ih (fun k hk => h k (by simp [hk])) j (by simpa using hj) i v (by simpa using hv)
      rw [List.flatMap_cons, List.getElem?_append_right (by omega), hq, show (j + 1) * 53 + i - 53 = j * 53 + i from by omega]
      exact this
structure MRow (base : Nat) (w : World) (out : Value) (ms : List Msg) : Prop where
  own : w.ownsRow base 45 53 out ms.length (mflat ms)
  rd : ∀ m ∈ ms, Reads w (.slice m.oo m.od.length m.oc) m.od
  far : ∀ m ∈ ms, OpFar base out.ownBlock m
  hd : ∀ m ∈ ms, m.hd.length = 32
theorem MRow.nil (base : Nat) (w : World) : MRow base w (.slice none 0 0) [] := ⟨World.ownsRow_nil _ _ _ _, fun _ h => by simp at h, fun _ h => by simp at h, fun _ h => by simp at h⟩
theorem reads_off {S : Nat → Prop} {w w' : World} {ao : Option Addr} {n c : Nat} {bs : List UInt8} (h : Reads w (.slice ao n c) bs) (k : Keeps S w w') (hs : ∀ a, ao = some a → bs ≠ [] → ¬ S a.block) : Reads w' (.slice ao n c) bs := by
  obtain ⟨bo, d, e, h1, h2, h3⟩ := h
  refine ⟨bo, d, e, ?_, h2, h3⟩
  by_cases h0 : bs = []
  · subst h0; rw [e]; exact Bytes.nil _ _ _
  · refine h1.keeps k (fun a n' c' e2 => ?_)
    simp only [Value.slice.injEq] at e2
    exact hs a e2.1 h0
theorem MRow.same {base : Nat} {w w' : World} {out : Value} {ms : List Msg} (h : MRow base w out ms) (k : Same w w') : MRow base w' out ms :=
  ⟨own_keeps k h.own (fun _ _ e => e), fun m hm => (h.rd m hm).same k, h.far, h.hd⟩
def fetchZ : Msg := ⟨0, 0, 0, 0, 0, 0, 0, List.replicate 32 0, 0, 0, 0, ⟨#[]⟩, ⟨#[]⟩, 0, 0, none, 0, [], 0, 0, none, 0, [], none, 0, [], none, 0, [], none, 0, []⟩
theorem Try.infoMsgR : (Try.prog.info? 45).map (fun i => (i.zero, i.size, i.bytes)) = some (some (.agg (fetchZ.cells).toArray), 53, 296) := by kernel_rfl
theorem mrow_append {base : Nat} {w : World} {out : Value} {ms : List Msg} {m : Msg} {G : Nat} (hE : MRow base w out ms) (hb : Reads w (.slice m.oo m.od.length m.oc) m.od) (hf : OpFar base out.ownBlock m) (hp : m.hd.length = 32) (hl : ms.length ≤ 1000)
    (hlit : w.heap[G]? = some (.cells m.cells.toArray 45 (0, 0))) (hbase : base ≤ w.heap.size) :
    ∃ g cp w'', (Builtin.append_ #[55, 55] 55 #[out, .slice (some ⟨G, 0, none⟩) 1 1]).run Try.prog w = .ok (.slice (some ⟨g, 0, none⟩) (ms.length + 1) cp) w'' ∧ Keeps (fun q => out.ownBlock = some q) w w'' ∧ MRow base w'' (.slice (some ⟨g, 0, none⟩) (ms.length + 1) cp) (ms ++ [m]) := by
  obtain ⟨ie, hie, hz0, hz1, hz2⟩ := info_partsV Try.infoMsgR
  obtain ⟨g, cp, w'', hrun, ho, hg, hat, _⟩ := run_append_lies (P := Try.prog) w 55 55 base 45 ie _ 53 296 Try.underlying55 hie hz0 hz1 hz2 (by have := fetchZ.cells_length rfl; simpa [Value.cells] using this) (by omega) out ms.length (mflat ms) hE.own ⟨G, 0, none⟩ 1 1 m.cells (by rw [m.cells_length hp]) (fun j u hu => by
    rw [Addr.add_mid, cell_of_row _ _ _ _ _ _ hlit]; simpa using hu) (fun u hu => (Array.all_eq_true_iff_forall_mem.1 m.cells_all) u (by simpa using hu)) (by omega) (by unfold maxLen; omega) (by omega) hbase w.heap.size rfl
  have hk : Keeps (fun q => out.ownBlock = some q) w w'' := (Keeps.refl _ _).grown hg (fun k e _ => e)
  have hat' : ∀ a : Addr, out.ownBlock ≠ some a.block → a.block < w.heap.size → (Value.slice (some ⟨g, 0, none⟩) (ms.length + 1) cp).ownBlock ≠ some a.block := fun a h1 h2 e => by
    simp only [Value.ownBlock, Option.some.injEq] at e
    rcases hat with h | h
    · exact h1 (by rw [h, e])
    · omega
  have low : ∀ k : Msg, Reads w (.slice k.oo k.od.length k.oc) k.od → ∀ a, k.oo = some a → k.od ≠ [] → a.block < w.heap.size := fun k hr a e h0 => by
    obtain ⟨_, _, _, h1, _⟩ := hr
    rw [e] at h1
    exact h1.lt h0
  have each : ∀ k : Msg, Reads w (.slice k.oo k.od.length k.oc) k.od → OpFar base out.ownBlock k → Reads w'' (.slice k.oo k.od.length k.oc) k.od ∧ OpFar base (Value.slice (some ⟨g, 0, none⟩) (ms.length + 1) cp).ownBlock k := fun k hr hfk =>
    ⟨reads_off hr hk (fun a e h0 => (hfk a e h0).1), fun a e h0 => ⟨hat' a (hfk a e h0).1 (low k hr a e h0), (hfk a e h0).2⟩⟩
  refine ⟨g, cp, w'', hrun, hk, ⟨?_, fun k hk2 => ?_, fun k hk2 => ?_, fun k hk2 => ?_⟩⟩
  · rw [List.length_append, show mflat (ms ++ [m]) = mflat ms ++ m.cells by simp [mflat]]
    exact ho
  · rcases List.mem_append.1 hk2 with h | h
    · exact (each k (hE.rd k h) (hE.far k h)).1
    · simp only [List.mem_singleton] at h; subst h; exact (each _ hb hf).1
  · rcases List.mem_append.1 hk2 with h | h
    · exact (each k (hE.rd k h) (hE.far k h)).2
    · simp only [List.mem_singleton] at h; subst h; exact (each _ hb hf).2
  · rcases List.mem_append.1 hk2 with h | h
    · exact hE.hd k h
    · simp only [List.mem_singleton] at h; subst h; exact hp

/-- The message by which a client asks a node. -/
def askM (c : Cl) (i : Nat) (yo : Option Addr) (yc : Nat) : Msg := ⟨1, 100 + c.id, (i : Int), 0, 0, 0, 0, List.replicate 32 0, c.id, c.nr, c.k, c.p, c.t, c.off, c.n, yo, yc, c.ds, 0, 0, none, 0, [], none, 0, [], none, 0, [], none, 0, []⟩
/-- These are the messages by which a client asks. -/
def AskAll (c : Cl) (ms : List Msg) : Prop := ∀ j (h : j < ms.length), ∃ yo yc, ms[j] = askM c j yo yc
theorem AskAll.snoc {c : Cl} {ms : List Msg} (h : AskAll c ms) (yo : Option Addr) (yc : Nat) : AskAll c (ms ++ [askM c ms.length yo yc]) := fun j hj => by
  by_cases hl : j < ms.length
  · rw [List.getElem_append_left hl]; exact h j hl
  · have : j = ms.length := by simp at hj; omega
    subst this
    exact ⟨yo, yc, by simp⟩
end Go.Proofs.Ytlglkkoippoafaa
