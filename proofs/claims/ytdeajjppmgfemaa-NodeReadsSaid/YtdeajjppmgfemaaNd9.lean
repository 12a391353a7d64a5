/- What node.readPart does. -/
import Derived.Test.YtdeajjppmgfemaaNd4
import Derived.Test.YtdeajjppmgfemaaNrow
import Derived.Test.YtdeajjppmgfemaaArr
namespace Go.Proofs.Ytdeajjppmgfemaa
open Go.RowKit
set_option linter.unusedVariables false

theorem Try.placeKid : ∀ parts, Try.prog.built 46 parts = Instr.fill ([(0, 1), (1, 32)].toArray[·]?) (Value.agg kid0.toArray).cells parts := by intro parts; kernel_rfl
theorem built_kid (ao : Option Addr) (n c : Nat) (hs : List UInt8) (h : hs.length = 32) : Try.prog.built 46 [(0, .slice ao n c), (1, .agg (u8s hs).toArray)] = some (Value.slice ao n c :: u8s hs).toArray := by
  rw [Try.placeKid, fill_two (n := 32) rfl rfl _ _ _ rfl _ (by rw [List.size_toArray, u8s_length, h])]
  · simp [Value.cells, kid0, u8s_length]
theorem arr_hash (ao : Addr) (c : Nat) (w : World) : (Instr.arrayAt 44 (.slice (some ao) 32 c)).run Try.prog w = .ok (.pointer (some ao)) w := by
  simp [Instr.arrayAt, run_underlying Try.underlying44]
theorem textFar_own {base lo : Nat} {w : World} {row : Option Nat} {x : Value} {n : Nat} {bs : List UInt8} {e : TypeId} (ho : w.ownsRow lo e 1 x n (u8s bs)) (hr : ∀ j, row = some j → j < lo) (hb : base ≤ lo) : TextFar base row x bs := fun a n c e2 h0 => by
  have h1 := (ho.lt a.block (by rw [e2]; rfl)).1
  exact ⟨own_spot ho a _ _ e2, fun e3 => by have := hr _ e3; omega, by omega⟩

/-- What stands where a node is read. -/
structure NSt (w0 w : World) (E G : Nat) (yv : Value) (bs : List UInt8) (i : Nat) (lv : Int) (pv kv : Value) (base : Nat) (ps : List PairX) (ks : List KidX) : Prop where
  eye : EyeW w0 w E yv bs i
  node : Whole w G 25 [.int .i64 lv, pv, kv]
  pr : PRow base w pv ps
  kr : KRow base w kv ks
  hG : w0.heap.size ≤ G
  hE : w0.heap.size ≤ E
  hEb : E < base ∧ G < base ∧ E ≠ G
  hy : ∀ j, yv.ownBlock = some j → j < base ∧ j ≠ G
  hb : base ≤ w.heap.size
theorem NSt.call {w0 w w' : World} {E G i i' : Nat} {yv : Value} {bs : List UInt8} {lv : Int} {pv kv : Value} {base : Nat} {ps : List PairX} {ks : List KidX} (h : NSt w0 w E G yv bs i lv pv kv base ps ks) (k : Keeps (fun q => q = E) w w') (hy : EyeW w0 w' E yv bs i') : NSt w0 w' E G yv bs i' lv pv kv base ps ks := by
  obtain ⟨b1, b2, b3⟩ := h.hEb
  exact ⟨hy, h.node.keep k (fun e => b3 e.symm), h.pr.keep k (fun j e => by omega), h.kr.keep k (fun j e => by omega), h.hG, h.hE, h.hEb, h.hy, Nat.le_trans h.hb k.size⟩
theorem NSt.same {w0 w w' : World} {E G i : Nat} {yv : Value} {bs : List UInt8} {lv : Int} {pv kv : Value} {base : Nat} {ps : List PairX} {ks : List KidX} (h : NSt w0 w E G yv bs i lv pv kv base ps ks) (k : Same w w') : NSt w0 w' E G yv bs i lv pv kv base ps ks :=
  ⟨h.eye.same' k, h.node.keep k (fun e => e), h.pr.same k, h.kr.same k, h.hG, h.hE, h.hEb, h.hy, Nat.le_trans h.hb k.size⟩

theorem NSt.setp {w0 w w9 : World} {E G i : Nat} {yv : Value} {bs : List UInt8} {lv : Int} {pv pv' kv : Value} {base : Nat} {ps ps' : List PairX} {ks : List KidX} (h : NSt w0 w E G yv bs i lv pv kv base ps ks) (hk : Keeps (fun q => pv.ownBlock = some q) w w9) (hp : PRow base w9 pv' ps') (hkr : KRow base w9 kv ks) :
    NSt w0 (w9.setCell ⟨G, 1, none⟩ pv') E G yv bs i lv pv' kv base ps' ks := by
  obtain ⟨b1, b2, b3⟩ := h.hEb
  have hlt : ∀ q, pv.ownBlock = some q → base ≤ q := fun q e => (h.pr.own.lt q e).1
  have hs : Keeps (fun q => pv.ownBlock = some q ∨ q = G) w (w9.setCell ⟨G, 1, none⟩ pv') := (hk.mono (fun _ _ e => .inl e)).setCell _ _ (.inr (.inr rfl))
  have hG9 : Keeps (fun q => q = G) w9 (w9.setCell ⟨G, 1, none⟩ pv') := (Keeps.refl _ _).setCell _ _ (.inr rfl)
  refine ⟨h.eye.keep' hs ?_ ?_ ?_, ?_, hp.keep hG9 (fun j e => by omega), hkr.keep hG9 (fun j e => by omega), h.hG, h.hE, h.hEb, h.hy, by have := h.hb; have := hk.size; simp; omega⟩
  · rintro (e | e)
    · have := hlt _ e; omega
    · exact b3 e
  · rintro j e (e2 | e2)
    · have := hlt _ e2; have := (h.hy j e).1; omega
    · exact (h.hy j e).2 e2
  · have hlo := h.eye.same.size
    rintro j (e | e)
    · have := hlt _ e; have := h.hG; omega
    · have := h.hG; omega
  · have h1 := (h.node.keep hk (fun e => by have := hlt _ e; omega)).set 1 pv'
    simpa using h1
theorem NSt.setk {w0 w w9 : World} {E G i : Nat} {yv : Value} {bs : List UInt8} {lv : Int} {pv kv kv' : Value} {base : Nat} {ps : List PairX} {ks ks' : List KidX} (h : NSt w0 w E G yv bs i lv pv kv base ps ks) (hk : Keeps (fun q => kv.ownBlock = some q) w w9) (hp : PRow base w9 pv ps) (hkr : KRow base w9 kv' ks') :
    NSt w0 (w9.setCell ⟨G, 2, none⟩ kv') E G yv bs i lv pv kv' base ps ks' := by
  obtain ⟨b1, b2, b3⟩ := h.hEb
  have hlt : ∀ q, kv.ownBlock = some q → base ≤ q := fun q e => (h.kr.own.lt q e).1
  have hs : Keeps (fun q => kv.ownBlock = some q ∨ q = G) w (w9.setCell ⟨G, 2, none⟩ kv') := (hk.mono (fun _ _ e => .inl e)).setCell _ _ (.inr (.inr rfl))
  have hG9 : Keeps (fun q => q = G) w9 (w9.setCell ⟨G, 2, none⟩ kv') := (Keeps.refl _ _).setCell _ _ (.inr rfl)
  refine ⟨h.eye.keep' hs ?_ ?_ ?_, ?_, hp.keep hG9 (fun j e => by omega), hkr.keep hG9 (fun j e => by omega), h.hG, h.hE, h.hEb, h.hy, by have := h.hb; have := hk.size; simp; omega⟩
  · rintro (e | e)
    · have := hlt _ e; omega
    · exact b3 e
  · rintro j e (e2 | e2)
    · have := hlt _ e2; have := (h.hy j e).1; omega
    · exact (h.hy j e).2 e2
  · have hlo := h.eye.same.size
    rintro j (e | e)
    · have := hlt _ e; have := h.hG; omega
    · have := h.hG; omega
  · have h1 := (h.node.keep hk (fun e => by have := hlt _ e; omega)).set 2 kv'
    simpa using h1

theorem NSt.grown {w0 w w3 : World} {E G i : Nat} {yv : Value} {bs : List UInt8} {lv : Int} {pv kv : Value} {base : Nat} {ps : List PairX} {ks : List KidX} {o : Obj} (h : NSt w0 w E G yv bs i lv pv kv base ps ks) (hg : (w.alloc o).grownBy w3 pv.ownBlock) :
    w3.cell? ⟨G, 1, none⟩ = some pv ∧ w3.frozen? ⟨G, 1, none⟩ = false ∧ Keeps (fun q => pv.ownBlock = some q) w w3 := by
  have hk : Keeps (fun q => pv.ownBlock = some q) w w3 := ((Keeps.refl _ _).alloc _).grown hg (fun k e _ => e)
  have hn := h.node.keep hk (fun e => by have := (h.pr.own.lt G e).1; have := h.hEb; omega)
  exact ⟨hn.cell (i := 1) rfl, hn.free 1, hk⟩
/-- What readPart answers: the next pair. -/
def PartP (w0 : World) (E G : Nat) (yv : Value) (bs : List UInt8) (i : Nat) (lv : Int) (kv : Value) (base : Nat) (ps : List PairX) (e : Ending) (w' : World) : Prop :=
  (∃ er, e = .returned (.int .i64 er) ∧ ¬ er = 0 ∧ codecP.part bs i = none ∧ Same w0 w') ∨
  (∃ pv' p j, e = .returned (.int .i64 0) ∧ codecP.part bs i = some ((p.ks, p.vs), j) ∧ NSt w0 w' E G yv bs j lv pv' kv base (ps ++ [p]) [])
/-- The next kid. -/
def PartK (w0 : World) (E G : Nat) (yv : Value) (bs : List UInt8) (i : Nat) (lv : Int) (pv : Value) (base : Nat) (ks : List KidX) (e : Ending) (w' : World) : Prop :=
  (∃ er, e = .returned (.int .i64 er) ∧ ¬ er = 0 ∧ codecK.part bs i = none ∧ Same w0 w') ∨
  (∃ kv' p j, e = .returned (.int .i64 0) ∧ codecK.part bs i = some ((p.fs, p.hs), j) ∧ NSt w0 w' E G yv bs j lv pv kv' base [] (ks ++ [p]))

/-- An eye's text: it is there, or it isn't. -/
theorem eyetext_c {w0 : World} {v : Value} (B : Nat) (bs : List UInt8) (i : Nat) (w : World) (h : EyeW w0 w B v bs i) (hl : bs.length ≤ 140737488351232) :
    Calls Try.prog 38 #[.pointer (some ⟨B, 0, none⟩)] w fun e w' => ∃ ao n c er, e = .returned (.tuple #[.slice ao n c, .int .i64 er]) ∧ Keeps (fun k => k = B) w w' ∧ EyeW w0 w' B v bs (txtTo bs i) ∧ w'.ownsRow w.heap.size 5 1 (.slice ao n c) n (u8s (txtAt bs i)) ∧ (txtAt bs i).length = n ∧
      ((TxtOk bs i ∧ er = 0) ∨ (¬ TxtOk bs i ∧ er = 20)) := by
  refine (eyetext_w B bs i w h hl).mono fun e w' ⟨r, er, j, b, he, hy, ho, ha, hb, hk⟩ => ?_
  obtain ⟨ao, c, hr⟩ := (Bytes.of_own ho).form
  subst hr
  by_cases q : TxtOk bs i
  · obtain ⟨e1, e2, e3⟩ := ha q
    have h1 : b = txtAt bs i := by unfold txtAt; rw [if_pos q]; exact e1
    have h2 : j = txtTo bs i := by unfold txtTo; rw [if_pos q, ← h1]; exact e3
    subst h1 h2
    exact ⟨ao, _, c, er, he, hk, hy, ho, rfl, .inl ⟨q, e2⟩⟩
  · obtain ⟨e1, e2, e3⟩ := hb q
    have h1 : b = txtAt bs i := by unfold txtAt; rw [if_neg q]; exact e1
    have h2 : j = txtTo bs i := by unfold txtTo; rw [if_neg q]; exact e3
    subst h1 h2
    exact ⟨ao, _, c, er, he, hk, hy, ho, rfl, .inr ⟨q, e2⟩⟩
theorem eyeraw_c {w0 : World} {v : Value} (B : Nat) (bs : List UInt8) (i n : Nat) (N : Int) (w : World) (h : EyeW w0 w B v bs i) (hl : bs.length ≤ 140737488351232) (hn1 : 1 ≤ n) (hN : N = (n : Int)) :
    Calls Try.prog 39 #[.pointer (some ⟨B, 0, none⟩), .int .i64 N] w fun e w' => ∃ r er, e = .returned (.tuple #[r, .int .i64 er]) ∧ Keeps (fun k => k = B) w w' ∧
      ((i + n ≤ bs.length ∧ er = 0 ∧ EyeW w0 w' B v bs (i + n) ∧ ∃ g c, r = .slice (some ⟨g, 0, none⟩) n c ∧ w'.ownsRow w.heap.size 5 1 (.slice (some ⟨g, 0, none⟩) n c) n (u8s ((bs.drop i).take n))) ∨ (¬ i + n ≤ bs.length ∧ er = 20)) := by
  refine (eyeraw_w B bs i n N w h hl hn1 hN).mono fun e w' ⟨r, er, j, b, he, hy, ho, ha, hb, hk⟩ => ⟨r, er, he, hk, ?_⟩
  by_cases q : i + n ≤ bs.length
  · obtain ⟨e1, e2, e3⟩ := ha q
    subst e1 e3
    have hln : ((bs.drop i).take n).length = n := by simp; omega
    rw [hln] at ho
    refine .inl ⟨q, e2, hy, ?_⟩
    rcases ho.2 with ⟨_, h0⟩ | ⟨g, cap, cur, e, _⟩
    · omega
    · subst e; exact ⟨g, cap, rfl, ho⟩
  · exact .inr ⟨q, (hb (by omega)).2.1⟩

set_option maxRecDepth 100000 in
set_option maxHeartbeats 6400000 in
theorem readPart_pair {w0 : World} {E G i base : Nat} {yv pv : Value} {bs : List UInt8} {ps : List PairX} (w : World) (h : NSt w0 w E G yv bs i 0 pv (.slice none 0 0) base ps []) (hl : bs.length ≤ 100000) (hps : ps.length ≤ 1000) :
    Calls Try.prog 27 #[.pointer (some ⟨E, 0, none⟩), .pointer (some ⟨G, 0, none⟩)] w (PartP w0 E G yv bs i 0 (.slice none 0 0) base ps) := by
  obtain ⟨j0, hj0, hy0, hy1, hy2⟩ := info_parts8 Try.infoPairR
  have H := Lib.hid h
  clear h
  go_enter Try.func27, Try.ntmps27
  go_wp2_with fail
  ((with_reducible refine (eyetext_c E bs i _ H.out.eye (by omega)).mono ?_); rintro e w1 ⟨ko, kn, kc, er, rfl, hk1, hy1', ho1, hn1, hc1⟩)
  have HO1 := Lib.hid ho1
  have HN1 := Lib.hid hn1
  have H1 := Lib.hid (H.out.call hk1 hy1')
  have hz1 := hk1.size
  clear hk1 hy1' ho1 hn1
  rcases hc1 with ⟨q1, rfl⟩ | ⟨q1, rfl⟩
  · have HQ1 := Lib.hid q1
    have c0 := H1.out.node.cell (i := 0) rfl
    clear q1
    go_wp2_with fail
    ((with_reducible refine (eyetext_c E bs (txtTo bs i) _ H1.out.eye (by omega)).mono ?_); rintro e w2 ⟨vo, vn, vc, er, rfl, hk2, hy2', ho2, hn2, hc2⟩)
    have HO2 := Lib.hid ho2
    have HN2 := Lib.hid hn2
    have H2 := Lib.hid (H1.out.call hk2 hy2')
    have hz2 := hk2.size
    have hO12 : w2.ownsRow w.heap.size 5 1 (.slice ko kn kc) kn (u8s (txtAt bs i)) := own_keeps hk2 HO1.out (fun j e e2 => by
      have h1 := (HO1.out.lt j e).1
      have h2 := H.out.eye.lt
      omega)
    have HO12 := Lib.hid hO12
    have c1 := H2.out.node.cell (i := 1) rfl
    have f1 := H2.out.node.free 1
    have HC2 := Lib.hid hc2
    have hbw := H.out.hb
    have HPV : Hid (∀ j, pv.ownBlock = some j → j < w.heap.size) := Lib.hid (fun j e => (H.out.pr.own.lt j e).2)
    have hGb : G < base ∧ base ≤ w2.heap.size := ⟨H.out.hEb.2.1, by omega⟩
    have HPG : Hid (pv.ownBlock ≠ some G) := Lib.hid (fun e => by have := (H.out.pr.own.lt G e).1; have := H.out.hEb; omega)
    clear hk2 hy2' ho2 hn2 hc2 hO12 c0
    go_wp2_with (at_builtin; refine wpList_append_lies _ (by rfl) _ _ _ (by rfl) base 54 j0 _ 2 48 Try.underlying22 hj0 hy0 hy1 hy2 rfl (by omega) pv ps.length (flat ps) (by rfl) (own_keeps ((Keeps.refl (fun _ => False) w2).alloc _) H2.out.pr.own (fun _ _ e => e)) ⟨w2.heap.size, 0, none⟩ 1 1 [.slice ko kn kc, .slice vo vn vc] (by rfl) (by rfl) (World.news_of_block (cs := #[.slice ko kn kc, .slice vo vn vc]) (t := 54) (fr := (0, 0)) (heap_alloc_new w2 _)) (two_cells _ _ _ _ _ _) (by omega) (by unfold maxLen; omega) (by omega) (by have := hGb.2; simp; omega) _ rfl ?_
                 intro gg cc w3 hown hgrow hat hlt
                 obtain ⟨c3, f3, hnode3⟩ := H2.out.grown hgrow
                 have HOWN := Lib.hid hown
                 have HGR := Lib.hid hgrow
                 have HAT := Lib.hid hat
                 have HND := Lib.hid hnode3
                 clear hown hgrow hat hlt hnode3)
    have HNS : Hid (NSt w0 (w3.setCell ⟨G, 1, none⟩ (.slice (some ⟨gg, 0, none⟩) (ps.length + 1) cc)) E G yv bs (txtTo bs (txtTo bs i)) 0 (.slice (some ⟨gg, 0, none⟩) (ps.length + 1) cc) (.slice none 0 0) base (ps ++ [⟨.slice ko kn kc, txtAt bs i, .slice vo vn vc, txtAt bs (txtTo bs i)⟩]) []) := Lib.hid (by
      have hsA : Same w2 (w2.alloc (.cells #[.slice ko kn kc, .slice vo vn vc] 54)) := (Keeps.refl _ _).alloc _
      refine H2.out.setp HND.out ?_ ?_
      · refine (H2.out.pr.same hsA).step ⟨.slice ko kn kc, txtAt bs i, .slice vo vn vc, txtAt bs (txtTo bs i)⟩ ?_ ?_ ?_ ?_ HOWN.out HGR.out ?_
        · exact (Bytes.of_own (by rw [HN1.out]; exact HO12.out)).same hsA
        · exact (Bytes.of_own (by rw [HN2.out]; exact HO2.out)).same hsA
        · exact textFar_own HO12.out HPV.out hbw
        · exact textFar_own HO2.out (fun j e => by have := HPV.out j e; omega) (by omega)
        · rcases HAT.out with h | h
          · exact .inl h
          · exact .inr (by rw [h]; exact Nat.le_refl _)
      · exact KRow.nil _ _)
    have HSM : Hid (Same w0 (w3.setCell ⟨G, 1, none⟩ (.slice (some ⟨gg, 0, none⟩) (ps.length + 1) cc))) := Lib.hid HNS.out.eye.same
    go_wp2
    go_ret
    rcases HC2.out with ⟨q2, rfl⟩ | ⟨q2, rfl⟩
    · exact .inr ⟨_, ⟨.slice ko kn kc, txtAt bs i, .slice vo vn vc, txtAt bs (txtTo bs i)⟩, _, rfl, by rw [codecP]; exact pair_some (txt_some HQ1.out) (txt_some q2), HNS.out⟩
    · exact .inl ⟨20, rfl, by omega, by rw [codecP]; exact pair_none2 (txt_some HQ1.out) (txt_none q2), HSM.out⟩
  · go_wp2
    go_ret
    exact .inl ⟨20, rfl, by omega, by rw [codecP]; exact pair_none1 (txt_none q1), H1.out.eye.same⟩

def KidE (base : Nat) (kv : Value) (ks : List KidX) (p : KidX) : Nat → Value → World → Prop
  | 0, _, w => KRow base w kv ks ∧ Bytes w p.fv p.fs
  | _ + 1, v, w => ∃ g cap, v = .slice (some ⟨g, 0, none⟩) (ks.length + 1) cap ∧ KRow base w v (ks ++ [p])
theorem KidE.same {base : Nat} {kv : Value} {ks : List KidX} {p : KidX} (q : Nat) (v : Value) (w w' : World) (h : KidE base kv ks p q v w) (k : Same w w') : KidE base kv ks p q v w' := by
  cases q with
  | zero => exact ⟨h.1.same k, h.2.same k⟩
  | succ q =>
    obtain ⟨g, c, e, h1⟩ := h
    exact ⟨g, c, e, h1.same k⟩
theorem kid_one (k : KidX) (ao : Option Addr) (n c : Nat) (h : k.fv = .slice ao n c) : ∀ u ∈ k.cells, u.oneCell' = true := by
  intro u hu
  simp only [KidX.cells, List.mem_cons] at hu
  rcases hu with rfl | hu
  · rw [h]; rfl
  · exact u8s_cell _ u hu
theorem kid_append {base : Nat} {w' : World} {kv : Value} {ks : List KidX} {p : KidX} {ao : Option Addr} {n c G : Nat} (hE : KRow base w' kv ks) (hb : Bytes w' p.fv p.fs) (fk : TextFar base kv.ownBlock p.fv p.fs) (hp : p.hs.length = 32) (hf : p.fv = .slice ao n c) (hks : ks.length ≤ 1000)
    (hlit : w'.heap[G]? = some (.cells p.cells.toArray 46 (0, 0))) (hbase : base ≤ w'.heap.size) :
    ∃ g cp w'', (Builtin.append_ #[23, 23] 23 #[kv, .slice (some ⟨G, 0, none⟩) 1 1]).run Try.prog w' = .ok (.slice (some ⟨g, 0, none⟩) (ks.length + 1) cp) w'' ∧ Keeps (fun q => kv.ownBlock = some q) w' w'' ∧ KRow base w'' (.slice (some ⟨g, 0, none⟩) (ks.length + 1) cp) (ks ++ [p]) := by
  obtain ⟨ie, hie, hz0, hz1, hz2⟩ := info_parts8 Try.infoKidR
  obtain ⟨g, cp, w'', hrun, ho, hg, hat, _⟩ := run_append_lies (P := Try.prog) w' 23 23 base 46 ie _ 33 56 Try.underlying23 hie hz0 hz1 hz2 (by simp [Value.cells, u8s_length]) (by omega) kv ks.length (kflat ks) hE.own ⟨G, 0, none⟩ 1 1 p.cells (by rw [p.cells_length hp]) (fun j u hu => by
    rw [Addr.add_mid, cell_of_row _ _ _ _ _ _ hlit]; simpa using hu) (kid_one p _ _ _ hf) (by omega) (by unfold maxLen; omega) (by omega) hbase w'.heap.size rfl
  refine ⟨g, cp, w'', hrun, (Keeps.refl _ _).grown hg (fun k e _ => e), hE.step p hb fk hp ho hg ?_⟩
  rcases hat with h | h
  · exact .inl h
  · exact .inr (by omega)

set_option maxRecDepth 100000 in
set_option maxHeartbeats 6400000 in
theorem readPart_kid {w0 : World} {E G i base L : Nat} {yv kv : Value} {bs : List UInt8} {ks : List KidX} (w : World) (h : NSt w0 w E G yv bs i (L : Int) (.slice none 0 0) kv base [] ks) (hL : 1 ≤ L) (hl : bs.length ≤ 100000) (hks : ks.length ≤ 1000) :
    Calls Try.prog 27 #[.pointer (some ⟨E, 0, none⟩), .pointer (some ⟨G, 0, none⟩)] w (PartK w0 E G yv bs i (L : Int) (.slice none 0 0) base ks) := by
  obtain ⟨ie, hie, hz0, hz1, hz2⟩ := info_parts8 Try.infoKidR
  have HZ := Lib.hid hz0
  have hL0 : ((L : Int) == 0) = false := by simp; omega
  have H := Lib.hid h
  clear h hz0
  go_enter Try.func27, Try.ntmps27
  go_wp2_with fail
  ((with_reducible refine (eyetext_c E bs i _ H.out.eye (by omega)).mono ?_); rintro e w1 ⟨ko, kn, kc, er, rfl, hk1, hy1', ho1, hn1, hc1⟩)
  have HO1 := Lib.hid ho1
  have HN1 := Lib.hid hn1
  have H1 := Lib.hid (H.out.call hk1 hy1')
  have hz1' := hk1.size
  clear hk1 hy1' ho1 hn1
  rcases hc1 with ⟨q1, rfl⟩ | ⟨q1, rfl⟩
  · have HQ1 := Lib.hid q1
    have c0 := H1.out.node.cell (i := 0) rfl
    clear q1
    go_wp2_with fail
    ((with_reducible refine (eyeraw_c E bs (txtTo bs i) 32 _ _ H1.out.eye (by omega) (by omega) (by omega)).mono ?_); rintro e w2 ⟨r, er, rfl, hk2, hc2⟩)
    rcases hc2 with ⟨q2, rfl, hy2', gh, ch, rfl, ho2⟩ | ⟨q2, rfl⟩
    · have HQ2 := Lib.hid q2
      have H2 := Lib.hid (H1.out.call hk2 hy2')
      have hz2' := hk2.size
      have hO12 : w2.ownsRow w.heap.size 5 1 (.slice ko kn kc) kn (u8s (txtAt bs i)) := own_keeps hk2 HO1.out (fun j e e2 => by
        have h1 := (HO1.out.lt j e).1
        have h2 := H.out.eye.lt
        omega)
      obtain ⟨hs, hhs⟩ : ∃ hs, (bs.drop (txtTo bs i)).take 32 = hs := ⟨_, rfl⟩
      have HHS := Lib.hid hhs
      have HHL : Hid (hs.length = 32) := Lib.hid (by rw [← hhs]; simp; omega)
      rw [hhs] at ho2
      have HHR : Hid (w2.rangeAt gh 0 (u8s hs)) := Lib.hid (own_range ho2)
      have hgh : w1.heap.size ≤ gh := (ho2.lt gh rfl).1
      have hpv : ∀ j, kv.ownBlock = some j → j < w.heap.size := fun j e => (H.out.kr.own.lt j e).2
      have HPV := Lib.hid hpv
      have HNG : Hid (∀ j, kv.ownBlock = some j → j ≠ G ∧ j ≠ gh) := Lib.hid (fun j e => ⟨by have := (H.out.kr.own.lt j e).1; have := H.out.hEb; omega, by have := hpv j e; omega⟩)
      have hbw := H.out.hb
      have HFK : Hid (TextFar base kv.ownBlock (.slice ko kn kc) (txtAt bs i)) := Lib.hid (textFar_own hO12 hpv hbw)
      have HBY : Hid (Bytes w2 (.slice ko kn kc) (txtAt bs i)) := Lib.hid (Bytes.of_own (by rw [HN1.out]; exact hO12))
      obtain ⟨p, hp⟩ : ∃ p : KidX, p = ⟨.slice ko kn kc, txtAt bs i, hs⟩ := ⟨_, rfl⟩
      have HP := Lib.hid hp
      have HBU : Hid (Try.prog.built 46 [(0, .slice ko kn kc), (1, .agg (u8s hs).toArray)] = some p.cells.toArray) := Lib.hid (by rw [hp]; exact built_kid ko kn kc hs HHL.out)
      have HCL : Hid (p.cells.toArray.size = 33) := Lib.hid (by rw [List.size_toArray, hp]; exact KidX.cells_length _ HHL.out)
      have HSS : Hid ((Try.prog.info? 44).map (fun i => i.size) = some (u8s hs).length) := Lib.hid (by rw [u8s_length, HHL.out]; kernel_rfl)
      have c2 := H2.out.node.cell (i := 2) rfl
      have f2 := H2.out.node.free 2
      clear hk2 hy2' ho2 hO12 hhs hp q2 hpv c0
      go_wp2
      clear c2 f2
      refine wp_region_hand [[], [], [1], [2], [3], [], [], [6], [7], [5, 8], [9], [4, 10], [0, 0, 1, 2, 3, 4, 5, 6, 7, 8, 9, 10, 11], [12, 0, 1, 2, 3, 4, 5, 6, 7, 8, 9, 10, 11], [13, 11, 11, 0, 1, 2, 3, 4, 5, 6, 7, 8, 9, 10, 11]]
        [some 49, some 50, some 51, some 52, some 53, some 54, some 55, some 56, some 57, some 58, some 59, some 60, some 61, some 62, none]
        [.is (.pointer (some ⟨G, 0, none⟩)), .is (.pointer (some ⟨G, 0, none⟩)), .is (.pointer (some ⟨G, 0, none⟩)), .is (.pointer (some ⟨G, 2, none⟩)), .is (kv), .is (.slice ko kn kc), .is (.slice (some ⟨gh, 0, none⟩) 32 ch), .is (.pointer (some ⟨gh, 0, none⟩)), .is (.agg (u8s hs).toArray), .is (.agg p.cells.toArray), .litN 46 p.cells.toArray 1, .any, .is (.pointer (some ⟨G, 0, none⟩)), .is (.pointer (some ⟨G, 2, none⟩)), .any]
        (fun k => kv.ownBlock = some k) [11] (KidE base kv ks p) 11 _ _ 63 14 15 (by kernel_rfl) (by rfl) (by rfl) (by omega) (by kernel_rfl) (by kernel_rfl) (by decide) (by decide) (fun k e => by have := HPV.out k e; omega) ⟨H2.out.kr, by rw [HP.out]; exact HBY.out⟩ KidE.same ?_ ?_
      · refine ⟨?_, ?_, ?_, ?_, ?_, ?_, ?_, ?_, ?_, ?_, ?_, ?_, ?_, ?_, trivial⟩
        · intro a w' K hs' hdep hfr hK
          have f1 := hfr 1 (by decide)
          exact plan_do (by rfl) (plan_yield (i := 0) (V := fun _ _ v => v = (.pointer (some ⟨G, 0, none⟩) : Value)) (.pointer (some ⟨G, 0, none⟩)) (by go_simp) rfl hK)
        · intro a w' K hs' hdep hfr hK
          have f1 := hfr 1 (by decide)
          exact plan_do (by rfl) (plan_yield (i := 1) (V := fun _ _ v => v = (.pointer (some ⟨G, 0, none⟩) : Value)) (.pointer (some ⟨G, 0, none⟩)) (by go_simp) rfl hK)
        · intro a w' K hs' hdep hfr hK
          have e50 : a.tmps[50]?.getD undef = (.pointer (some ⟨G, 0, none⟩)) := hdep 1 (by decide) 50 rfl
          exact plan_do (by rfl) (plan_yield (i := 2) (V := fun _ _ v => v = (.pointer (some ⟨G, 0, none⟩) : Value)) (.pointer (some ⟨G, 0, none⟩)) (by go_simp) rfl hK)
        · intro a w' K hs' hdep hfr hK
          have e51 : a.tmps[51]?.getD undef = (.pointer (some ⟨G, 0, none⟩)) := hdep 2 (by decide) 51 rfl
          exact plan_do (by rfl) (plan_yield (i := 3) (V := fun _ _ v => v = (.pointer (some ⟨G, 2, none⟩) : Value)) (.pointer (some ⟨G, 2, none⟩)) (by go_simp) rfl hK)
        · intro a w' K hs' hdep hfr hK
          have e52 : a.tmps[52]?.getD undef = (.pointer (some ⟨G, 2, none⟩)) := hdep 3 (by decide) 52 rfl
          have cl := (H2.out.node.keep hs' (fun e => (HNG.out G e).1 rfl)).cell (i := 2) rfl
          exact plan_do (by rfl) (plan_yield (i := 4) (V := fun _ _ v => v = (kv : Value)) (kv) (by go_simp) rfl hK)
        · intro a w' K hs' hdep hfr hK
          have f5 := hfr 5 (by decide)
          exact plan_do (by rfl) (plan_yield (i := 5) (V := fun _ _ v => v = (.slice ko kn kc : Value)) (.slice ko kn kc) (by go_simp) rfl hK)
        · intro a w' K hs' hdep hfr hK
          have f9 := hfr 9 (by decide)
          exact plan_do (by rfl) (plan_yield (i := 6) (V := fun _ _ v => v = (.slice (some ⟨gh, 0, none⟩) 32 ch : Value)) (.slice (some ⟨gh, 0, none⟩) 32 ch) (by go_simp) rfl hK)
        · intro a w' K hs' hdep hfr hK
          have e55 : a.tmps[55]?.getD undef = (.slice (some ⟨gh, 0, none⟩) 32 ch) := hdep 6 (by decide) 55 rfl
          have harr := arr_hash ⟨gh, 0, none⟩ ch w'
          exact plan_do (by rfl) (plan_yield (i := 7) (V := fun _ _ v => v = (.pointer (some ⟨gh, 0, none⟩) : Value)) (.pointer (some ⟨gh, 0, none⟩)) (by go_simp) rfl hK)
        · intro a w' K hs' hdep hfr hK
          have e56 : a.tmps[56]?.getD undef = (.pointer (some ⟨gh, 0, none⟩)) := hdep 7 (by decide) 56 rfl
          exact plan_do (by rfl) (wp_load_mid 44 (.tmp 56) rfl gh 0 ((eval_tmp _ _).trans e56) (u8s hs) _ (rangeAt_keep HHR.out hs' (fun _ e => (HNG.out gh e).2 rfl)) Try.underlying44 rfl HSS.out (hK _ _ (Keeps.refl _ _) rfl))
        · intro a w' K hs' hdep hfr hK
          have e54 : a.tmps[54]?.getD undef = (.slice ko kn kc) := hdep 5 (by decide) 54 rfl
          have e57 : a.tmps[57]?.getD undef = (.agg (u8s hs).toArray) := hdep 8 (by decide) 57 rfl
          refine plan_do (by rfl) (plan_build 46 #[(0, .tmp 54), (1, .tmp 57)] rfl p.cells.toArray ?_ (hK _ _ (Keeps.refl _ _) rfl))
          simp only [List.map_toArray, List.map_cons, List.map_nil, eval_tmp, e54, e57]
          exact HBU.out
        · intro a w' K hs' hdep hfr hK
          have e58 : a.tmps[58]?.getD undef = (.agg p.cells.toArray) := hdep 9 (by decide) 58 rfl
          exact plan_do (by rfl) (wp_buildOne 23 46 (.tmp 58) rfl p.cells.toArray ie _ ((eval_tmp _ _).trans e58) Try.underlying23 hie HZ.out (by rw [hz1, HCL.out]) (by rw [HCL.out]; omega) (by rw [HCL.out]; omega) (hK _ _ ((Keeps.refl _ _).alloc _) ⟨w'.heap.size, rfl, hs'.size, heap_alloc_new w' _⟩))
        · intro a w' K hs' hdep hfr ev hE hev hK
          have e53 : a.tmps[53]?.getD undef = (kv) := hdep 4 (by decide) 53 rfl
          obtain ⟨GL, e59, hGL, hlit⟩ : ∃ G, a.tmps[59]?.getD undef = .slice (some ⟨G, 0, none⟩) 1 1 ∧ w2.heap.size ≤ G ∧ w'.heap[G]? = some (.cells p.cells.toArray 46 (0, 0)) := hdep 10 (by decide) 59 rfl
          obtain ⟨g, cp, w'', hrun, hk9, hkr⟩ := kid_append hE.1 hE.2 (by rw [HP.out]; exact HFK.out) (by rw [HP.out]; exact HHL.out) (by rw [HP.out]) hks hlit (by have := hs'.size; omega)
          refine step_append_run (by rfl) (.tmp 53) (.tmp 59) 23 (by rfl) kv (.slice (some ⟨GL, 0, none⟩) 1 1) _ w'' ((eval_tmp _ _).trans e53) ((eval_tmp _ _).trans e59) hrun ?_
          exact hK _ _ hk9 ⟨g, cp, rfl, hkr⟩ trivial
        · intro a w' K hs' hdep hfr hK
          have e49 : a.tmps[49]?.getD undef = (.pointer (some ⟨G, 0, none⟩)) := hdep 0 (by decide) 49 rfl
          exact plan_do (by rfl) (plan_yield (i := 12) (V := fun _ _ v => v = (.pointer (some ⟨G, 0, none⟩) : Value)) (.pointer (some ⟨G, 0, none⟩)) (by go_simp) rfl hK)
        · intro a w' K hs' hdep hfr hK
          have e61 : a.tmps[61]?.getD undef = (.pointer (some ⟨G, 0, none⟩)) := hdep 12 (by decide) 61 rfl
          exact plan_do (by rfl) (plan_yield (i := 13) (V := fun _ _ v => v = (.pointer (some ⟨G, 2, none⟩) : Value)) (.pointer (some ⟨G, 2, none⟩)) (by go_simp) rfl hK)
      intro a wz hkz hdef hsz hv hfr ev hEz hev
      have e60 := hev 0 60 rfl rfl
      have e62 : a.tmps[62]?.getD undef = (.pointer (some ⟨G, 2, none⟩)) := hv 13 62 (by omega) rfl
      have he := act_eq a _ [some 49, some 50, some 51, some 52, some 53, some 54, some 55, some 56, some 57, some 58, some 59, some 60, some 61, some 62] 63 rfl hsz hdef hfr (fun d => a.tmps[d]?.getD undef) (fun _ _ => rfl)
      obtain ⟨v49, h49⟩ : ∃ v, a.tmps[49]?.getD undef = v := ⟨_, rfl⟩
      obtain ⟨v50, h50⟩ : ∃ v, a.tmps[50]?.getD undef = v := ⟨_, rfl⟩
      obtain ⟨v51, h51⟩ : ∃ v, a.tmps[51]?.getD undef = v := ⟨_, rfl⟩
      obtain ⟨v52, h52⟩ : ∃ v, a.tmps[52]?.getD undef = v := ⟨_, rfl⟩
      obtain ⟨v53, h53⟩ : ∃ v, a.tmps[53]?.getD undef = v := ⟨_, rfl⟩
      obtain ⟨v54, h54⟩ : ∃ v, a.tmps[54]?.getD undef = v := ⟨_, rfl⟩
      obtain ⟨v55, h55⟩ : ∃ v, a.tmps[55]?.getD undef = v := ⟨_, rfl⟩
      obtain ⟨v56, h56⟩ : ∃ v, a.tmps[56]?.getD undef = v := ⟨_, rfl⟩
      obtain ⟨v57, h57⟩ : ∃ v, a.tmps[57]?.getD undef = v := ⟨_, rfl⟩
      obtain ⟨v58, h58⟩ : ∃ v, a.tmps[58]?.getD undef = v := ⟨_, rfl⟩
      obtain ⟨v59, h59⟩ : ∃ v, a.tmps[59]?.getD undef = v := ⟨_, rfl⟩
      obtain ⟨v61, h61⟩ : ∃ v, a.tmps[61]?.getD undef = v := ⟨_, rfl⟩
      simp only [putAll, e60, e62, h49, h50, h51, h52, h53, h54, h55, h56, h57, h58, h59, h61, List.setIfInBounds_toArray, List.set_cons_zero, List.set_cons_succ] at he
      clear e60 e62 h49 h50 h51 h52 h53 h54 h55 h56 h57 h58 h59 h61 hdef hsz hv hfr hev
      subst he
      obtain ⟨gg, cc, rfl, hkr⟩ := hEz
      have hnz := H2.out.node.keep hkz (fun e => (HNG.out G e).1 rfl)
      have c9 : wz.cell? ⟨G, 2, none⟩ = some kv := hnz.cell (i := 2) rfl
      have f9 := hnz.free 2
      have HKR := Lib.hid hkr
      have HKZ := Lib.hid hkz
      have HNS : Hid (NSt w0 (wz.setCell ⟨G, 2, none⟩ (.slice (some ⟨gg, 0, none⟩) (ks.length + 1) cc)) E G yv bs (txtTo bs i + 32) (L : Int) (.slice none 0 0) (.slice (some ⟨gg, 0, none⟩) (ks.length + 1) cc) base [] (ks ++ [p])) := Lib.hid (H2.out.setk HKZ.out (PRow.nil _ _) HKR.out)
      clear hkr hkz hnz
      go_wp2
      go_ret
      refine .inr ⟨_, p, _, rfl, ?_, HNS.out⟩
      rw [codecK, HP.out, ← HHS.out]
      exact pair_some (txt_some HQ1.out) (raw_part _ HQ2.out)
    · have HSM : Hid (Same w0 w2) := Lib.hid (H1.out.eye.same.trans hk2 (fun j hj e => by have := H.out.hE; omega))
      have HQ2 := Lib.hid q2
      clear hk2 q2
      go_wp2
      go_ret
      exact .inl ⟨20, rfl, by omega, by rw [codecK]; exact pair_none2 (txt_some HQ1.out) (raw_part_none _ HQ2.out), HSM.out⟩
  · go_wp2
    go_ret
    exact .inl ⟨20, rfl, by omega, by rw [codecK]; exact pair_none1 (txt_none q1), H1.out.eye.same⟩
end Go.Proofs.Ytdeajjppmgfemaa
