/- What the document's Read of a node does. -/
import Derived.Test.YtdeajjppmgfemaaNd10
import Derived.Test.YtdeajjppmgfemaaNd6
import Derived.Test.YtdeajjppmgfemaaREye2
namespace Go.Proofs.Ytdeajjppmgfemaa
open Go.RowKit
set_option linter.unusedVariables false

theorem reyetext_c (B : Nat) (ao : Option Addr) (cap : Nat) (bs : List UInt8) (i : Nat) (w : World) (h : REye w B ao cap bs i) (hl : bs.length ≤ 140737488351232) :
    Calls Try.prog 29 #[.pointer (some ⟨B, 0, none⟩)] w fun e w' => ∃ ao2 n c er, e = .returned (.tuple #[.slice ao2 n c, .int .i64 er]) ∧ Keeps (fun k => k = B) w w' ∧ REye w' B ao cap bs (txtTo bs i) ∧ (txtAt bs i).length = n ∧
      ((TxtOk bs i ∧ er = 0 ∧ w'.ownsRow w.heap.size 5 1 (.slice ao2 n c) n (u8s (txtAt bs i))) ∨ (¬ TxtOk bs i ∧ er = 20)) := by
  by_cases q : TxtOk bs i
  · have hl2 := (txtAt_len q).1
    refine (reye_text_ok B ao cap bs i _ w h hl q.2 rfl).mono fun e w' ⟨g, c, he, ho, hy, hk⟩ => ⟨_, _, c, 0, he, hk, ?_, hl2, .inl ⟨q, rfl, ?_⟩⟩
    · unfold txtTo; rw [if_pos q, hl2]; exact hy
    · have : txtAt bs i = (bs.drop (i + 2)).take (beVal ((bs.drop i).take 2)) := by unfold txtAt; rw [if_pos q]
      rw [this]; exact ho
  · refine (reye_text_fail B ao cap bs i w h hl (by unfold TxtOk at q; omega)).mono fun e w' ⟨g, he, hk⟩ => ⟨_, 0, 0, 20, he, hk.any, ?_, by unfold txtAt; rw [if_neg q]; rfl, .inr ⟨q, rfl⟩⟩
    unfold txtTo; rw [if_neg q]
    exact h.same hk
theorem reyeraw_c (B : Nat) (ao : Option Addr) (cap : Nat) (bs : List UInt8) (i n : Nat) (N : Int) (w : World) (h : REye w B ao cap bs i) (hl : bs.length ≤ 140737488351232) (hn1 : 1 ≤ n) (hN : N = (n : Int)) :
    Calls Try.prog 30 #[.pointer (some ⟨B, 0, none⟩), .int .i64 N] w fun e w' => ∃ r er, e = .returned (.tuple #[r, .int .i64 er]) ∧ Keeps (fun k => k = B) w w' ∧
      ((i + n ≤ bs.length ∧ er = 0 ∧ REye w' B ao cap bs (i + n) ∧ ∃ g c, r = .slice (some ⟨g, 0, none⟩) n c ∧ w'.ownsRow w.heap.size 5 1 (.slice (some ⟨g, 0, none⟩) n c) n (u8s ((bs.drop i).take n))) ∨ (¬ i + n ≤ bs.length ∧ er = 20)) := by
  subst hN
  by_cases q : i + n ≤ bs.length
  · exact (reye_raw_ok B ao cap bs i n w h hl q).mono fun e w' ⟨g, c, he, ho, hy, hk⟩ => ⟨_, 0, he, hk, .inl ⟨q, rfl, hy, g, c, rfl, ho⟩⟩
  · exact (reye_raw_short B ao cap bs i n w h hl (by have := h.le; omega)).mono fun e w' ⟨g, he, hk⟩ => ⟨_, 20, he, hk.any, .inr ⟨q, rfl⟩⟩

/-- What stands where the document reads a node. -/
structure NSr (w0 w : World) (E G : Nat) (ao : Option Addr) (cap : Nat) (bs : List UInt8) (i : Nat) (lv : Int) (pv kv : Value) (base : Nat) (ps : List PairX) (ks : List KidX) : Prop where
  eye : REye w E ao cap bs i
  node : Whole w G 25 [.int .i64 lv, pv, kv]
  pr : PRow base w pv ps
  kr : KRow base w kv ks
  same : Same w0 w
  hG : w0.heap.size ≤ G
  hE : w0.heap.size ≤ E
  hEb : E < base ∧ G < base ∧ E ≠ G
  hy : ∀ a, ao = some a → bs ≠ [] → a.block < w0.heap.size
  hb : base ≤ w.heap.size
theorem NSr.call {w0 w w' : World} {E G cap i i' : Nat} {ao : Option Addr} {bs : List UInt8} {lv : Int} {pv kv : Value} {base : Nat} {ps : List PairX} {ks : List KidX} (h : NSr w0 w E G ao cap bs i lv pv kv base ps ks) (k : Keeps (fun q => q = E) w w') (hy : REye w' E ao cap bs i') : NSr w0 w' E G ao cap bs i' lv pv kv base ps ks := by
  obtain ⟨b1, b2, b3⟩ := h.hEb
  exact ⟨hy, h.node.keep k (fun e => b3 e.symm), h.pr.keep k (fun j e => by omega), h.kr.keep k (fun j e => by omega), h.same.trans k (fun j hj e => by have := h.hE; omega), h.hG, h.hE, h.hEb, h.hy, Nat.le_trans h.hb k.size⟩
theorem NSr.keepB {w0 w w' : World} {E G cap i : Nat} {ao : Option Addr} {bs : List UInt8} {lv : Int} {pv kv : Value} {base : Nat} {ps : List PairX} {ks : List KidX} (h : NSr w0 w E G ao cap bs i lv pv kv base ps ks) (k : Same w w') : NSr w0 w' E G ao cap bs i lv pv kv base ps ks :=
  ⟨h.eye.same k, h.node.keep k (fun e => e), h.pr.same k, h.kr.same k, h.same.trans k (fun _ _ e => e), h.hG, h.hE, h.hEb, h.hy, Nat.le_trans h.hb k.size⟩
theorem NSr.setp {w0 w w9 : World} {E G cap i : Nat} {ao : Option Addr} {bs : List UInt8} {lv : Int} {pv pv' kv : Value} {base : Nat} {ps ps' : List PairX} {ks : List KidX} (h : NSr w0 w E G ao cap bs i lv pv kv base ps ks) (hk : Keeps (fun q => pv.ownBlock = some q) w w9) (hp : PRow base w9 pv' ps') (hkr : KRow base w9 kv ks) :
    NSr w0 (w9.setCell ⟨G, 1, none⟩ pv') E G ao cap bs i lv pv' kv base ps' ks := by
  obtain ⟨b1, b2, b3⟩ := h.hEb
  have hlt : ∀ q, pv.ownBlock = some q → base ≤ q := fun q e => (h.pr.own.lt q e).1
  have hs : Keeps (fun q => pv.ownBlock = some q ∨ q = G) w (w9.setCell ⟨G, 1, none⟩ pv') := (hk.mono (fun _ _ e => .inl e)).setCell _ _ (.inr (.inr rfl))
  have hG9 : Keeps (fun q => q = G) w9 (w9.setCell ⟨G, 1, none⟩ pv') := (Keeps.refl _ _).setCell _ _ (.inr rfl)
  have hG := h.hG
  have hE := h.hE
  have hlo := h.same.size
  refine ⟨h.eye.keeps hs ?_ ?_, ?_, hp.keep hG9 (fun j e => by omega), hkr.keep hG9 (fun j e => by omega), h.same.trans hs ?_, h.hG, h.hE, h.hEb, h.hy, by have := h.hb; have := hk.size; simp; omega⟩
  · rintro (e | e)
    · have := hlt _ e; omega
    · exact b3 e
  · rintro a e h0 (e2 | e2)
    · have := hlt _ e2; have := h.hy a e h0; omega
    · have := h.hy a e h0; omega
  · have h1 := (h.node.keep hk (fun e => by have := hlt _ e; omega)).set 1 pv'
    simpa using h1
  · rintro j hj (e | e)
    · have := hlt _ e; omega
    · omega
theorem NSr.setk {w0 w w9 : World} {E G cap i : Nat} {ao : Option Addr} {bs : List UInt8} {lv : Int} {pv kv kv' : Value} {base : Nat} {ps : List PairX} {ks ks' : List KidX} (h : NSr w0 w E G ao cap bs i lv pv kv base ps ks) (hk : Keeps (fun q => kv.ownBlock = some q) w w9) (hp : PRow base w9 pv ps) (hkr : KRow base w9 kv' ks') :
    NSr w0 (w9.setCell ⟨G, 2, none⟩ kv') E G ao cap bs i lv pv kv' base ps ks' := by
  obtain ⟨b1, b2, b3⟩ := h.hEb
  have hlt : ∀ q, kv.ownBlock = some q → base ≤ q := fun q e => (h.kr.own.lt q e).1
  have hs : Keeps (fun q => kv.ownBlock = some q ∨ q = G) w (w9.setCell ⟨G, 2, none⟩ kv') := (hk.mono (fun _ _ e => .inl e)).setCell _ _ (.inr (.inr rfl))
  have hG9 : Keeps (fun q => q = G) w9 (w9.setCell ⟨G, 2, none⟩ kv') := (Keeps.refl _ _).setCell _ _ (.inr rfl)
  have hG := h.hG
  have hE := h.hE
  have hlo := h.same.size
  refine ⟨h.eye.keeps hs ?_ ?_, ?_, hp.keep hG9 (fun j e => by omega), hkr.keep hG9 (fun j e => by omega), h.same.trans hs ?_, h.hG, h.hE, h.hEb, h.hy, by have := h.hb; have := hk.size; simp; omega⟩
  · rintro (e | e)
    · have := hlt _ e; omega
    · exact b3 e
  · rintro a e h0 (e2 | e2)
    · have := hlt _ e2; have := h.hy a e h0; omega
    · have := h.hy a e h0; omega
  · have h1 := (h.node.keep hk (fun e => by have := hlt _ e; omega)).set 2 kv'
    simpa using h1
  · rintro j hj (e | e)
    · have := hlt _ e; omega
    · omega
theorem NSr.grown {w0 w w3 : World} {E G cap i : Nat} {ao : Option Addr} {bs : List UInt8} {lv : Int} {pv kv : Value} {base : Nat} {ps : List PairX} {ks : List KidX} {o : Obj} (h : NSr w0 w E G ao cap bs i lv pv kv base ps ks) (hg : (w.alloc o).grownBy w3 pv.ownBlock) :
    w3.cell? ⟨G, 1, none⟩ = some pv ∧ w3.frozen? ⟨G, 1, none⟩ = false ∧ Keeps (fun q => pv.ownBlock = some q) w w3 := by
  have hk : Keeps (fun q => pv.ownBlock = some q) w w3 := ((Keeps.refl _ _).alloc _).grown hg (fun k e _ => e)
  have hn := h.node.keep hk (fun e => by have := (h.pr.own.lt G e).1; have := h.hEb; omega)
  exact ⟨hn.cell (i := 1) rfl, hn.free 1, hk⟩
theorem zk_append {base : Nat} {w' : World} {kv : Value} {ks : List KidX} {p : KidX} {ao : Option Addr} {n c G : Nat} (hE : KRow base w' kv ks) (hb : Bytes w' p.fv p.fs) (fk : TextFar base kv.ownBlock p.fv p.fs) (hp : p.hs.length = 32) (hf : p.fv = .slice ao n c) (hks : ks.length ≤ 1000)
    (hlit : w'.heap[G]? = some (.cells p.cells.toArray 46 (0, 0))) (hbase : base ≤ w'.heap.size) :
    ∃ g cp w'', (Builtin.append_ #[23, 23] 23 #[kv, .slice (some ⟨G, 0, none⟩) 1 1]).run Try.prog w' = .ok (.slice (some ⟨g, 0, none⟩) (ks.length + 1) cp) w'' ∧ Keeps (fun q => kv.ownBlock = some q) w' w'' ∧ KRow base w'' (.slice (some ⟨g, 0, none⟩) (ks.length + 1) cp) (ks ++ [p]) :=
  kid_append hE hb fk hp hf hks hlit hbase
end Go.Proofs.Ytdeajjppmgfemaa
