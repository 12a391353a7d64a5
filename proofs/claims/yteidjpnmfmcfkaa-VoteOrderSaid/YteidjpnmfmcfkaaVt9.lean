/- A list of votes out of an argument; the walk of VoteChooses. -/
import Derived.Test.YteidjpnmfmcfkaaVt8
namespace Go.Proofs.Yteidjpnmfmcfkaa
open Go.ChangeShapes Go.WideShapes Go.ChangeAt Go.RowKit Go.Deep
set_option linter.unusedVariables false

section
variable {H : Type} {enc : TypeId × Value → H}
theorem vt_choose {α : Type} {n : Nat} {p : Nat → α → Prop} (d : α) (h : ∀ i, i < n → ∃ x, p i x) : ∃ f : Nat → α, ∀ i, i < n → p i (f i) := by
  classical
  refine ⟨fun i => if hi : i < n then Classical.choose (h i hi) else d, fun i hi => ?_⟩
  simp only [dif_pos hi]
  exact Classical.choose_spec (h i hi)
theorem vt_cellsU8 : Try.prog.cellsOf 5 = 1 := by kernel_rfl
theorem vt_cellsInt : Try.prog.cellsOf 3 = 1 := by kernel_rfl
theorem vt_cellsU64 : Try.prog.cellsOf 22 = 1 := by kernel_rfl
theorem vt_cellsHash : Try.prog.cellsOf 29 = 32 := by kernel_rfl
theorem vt_cellsVote : Try.prog.cellsOf 31 = 37 := by kernel_rfl
theorem vt_fields : (Try.prog.fieldsOf 31).toList.map (fun f => (f.type, f.offset)) = [(3, 0), (22, 1), (22, 2), (22, 3), (22, 4), (29, 5)] := by kernel_rfl
theorem vt_flen : (Try.prog.fieldsOf 31).toList.length = 6 := by kernel_rfl
theorem vt_u8_of_wf (n : Int) (h : (Lit.int .u8 n).wf = true) : ∃ b : UInt8, n = (b.toNat : Int) := by
  have h2 : 0 ≤ n ∧ n < 256 := by
    simp [Lit.wf] at h
    have e1 : IntKind.u8.min = 0 := by decide
    have e2 : IntKind.u8.max = 255 := by decide
    omega
  exact ⟨UInt8.ofNat n.toNat, by rw [UInt8.toNat_ofNat']; omega⟩
theorem vt_open_hash {W : World} {cs : List Value} {fuel : Nat} {x : DataW H × List MemPlace} (hf : DataW.trod enc Try.prog W 0 (fun _ => true) true fuel 29 cs = some x) :
    ∃ hd : List UInt8, hd.length = 32 ∧ cs = u8s hd := by
  obtain ⟨xs, m, _, _, hlen, hxl, hel⟩ := DataW.trod_array Try.underlying29 hf
  rw [vt_cellsHash] at hlen
  have each : ∀ i, i < 32 → ∃ b : UInt8, cs[i]? = some (.int .u8 (b.toNat : Int)) := by
    intro i hi
    have h1 := hel i hi
    rw [vt_cellsU8, Nat.mul_one, List.getElem?_eq_getElem (by omega)] at h1
    obtain ⟨n, h2, _, h3⟩ := DataW.trod_int Try.underlying5 h1
    obtain ⟨b, rfl⟩ := vt_u8_of_wf n h3
    refine ⟨b, ?_⟩
    have h4 : ((cs.drop i).take 1)[0]? = some (.int .u8 (b.toNat : Int)) := by rw [h2]; rfl
    simpa using h4
  obtain ⟨f, hf⟩ := vt_choose (0 : UInt8) each
  refine ⟨(List.range 32).map f, by simp, List.ext_getElem (by simp [u8s_length, hlen]) fun i h1 h2 => ?_⟩
  have h3 := hf i (by omega)
  rw [List.getElem?_eq_getElem h1] at h3
  simp only [u8s, List.map_map, List.getElem_map, List.getElem_range, Function.comp_apply]
  exact Option.some.inj h3
theorem open_vote_trod {W : World} {cs : List Value} {fuel : Nat} {x : DataW H × List MemPlace} (hf : DataW.trod enc Try.prog W 0 (fun _ => true) true fuel 31 cs = some x) :
    ∃ v : VoteX, cs = v.cells ∧ v.ok := by
  obtain ⟨xs, m, _, _, hlen, hxs, hfd⟩ := DataW.trod_struct Try.voteIs hf
  rw [vt_cellsVote] at hlen
  have fld : ∀ (i : Nat) (t : TypeId) (o : Nat), [(3, 0), (22, 1), (22, 2), (22, 3), (22, 4), (29, 5)][i]? = some (t, o) → ∃ y, DataW.trod enc Try.prog W 0 (fun _ => true) true m t ((cs.drop o).take (Try.prog.cellsOf t)) = some y := by
    intro i t o hi
    rw [← vt_fields, List.getElem?_map] at hi
    obtain ⟨f, hf1, hf2⟩ := Option.map_eq_some_iff.1 hi
    simp only [Prod.mk.injEq] at hf2
    have h1 := hfd i f (by simpa using hf1)
    rw [hf2.1, hf2.2] at h1
    have hil : i < xs.length := by
      have := (List.getElem?_eq_some_iff.1 hf1).1
      rw [hxs]; simpa using this
    rw [List.getElem?_eq_getElem hil] at h1
    exact ⟨_, h1⟩
  have u64 : ∀ k, [(3, 0), (22, 1), (22, 2), (22, 3), (22, 4), (29, 5)][k]? = some (22, k) → k < 37 → ∃ n, cs[k]? = some (.int .u64 n) ∧ (Lit.int .u64 n).wf = true := by
    intro k hk hk2
    obtain ⟨y, h1⟩ := fld k 22 k hk
    rw [vt_cellsU64] at h1
    obtain ⟨n, h2, _, h3⟩ := DataW.trod_int Try.underlying22 h1
    refine ⟨n, ?_, h3⟩
    have h4 : ((cs.drop k).take 1)[0]? = some (.int .u64 n) := by rw [h2]; rfl
    simpa using h4
  obtain ⟨y0, h0⟩ := fld 0 3 0 rfl
  rw [vt_cellsInt] at h0
  obtain ⟨n0, e0, _, w0⟩ := DataW.trod_int Try.underlying3 h0
  have q0 : cs[0]? = some (.int .i64 n0) := by
    have h4 : ((cs.drop 0).take 1)[0]? = some (.int .i64 n0) := by rw [e0]; rfl
    simpa using h4
  obtain ⟨n1, q1, w1⟩ := u64 1 rfl (by omega)
  obtain ⟨n2, q2, w2⟩ := u64 2 rfl (by omega)
  obtain ⟨n3, q3, w3⟩ := u64 3 rfl (by omega)
  obtain ⟨n4, q4, w4⟩ := u64 4 rfl (by omega)
  obtain ⟨y5, h5⟩ := fld 5 29 5 rfl
  obtain ⟨hd, hdl, hdc⟩ := vt_open_hash h5
  rw [vt_cellsHash, List.take_of_length_le (by simp; omega)] at hdc
  refine ⟨⟨n0, n1, n2, n3, n4, hd⟩, ?_, w0, w1, w4, hdl⟩
  have d4 : cs.drop 4 = .int .u64 n4 :: cs.drop 5 := by rw [List.drop_eq_getElem_cons (by omega), (List.getElem?_eq_some_iff.1 q4).2]
  have d3 : cs.drop 3 = .int .u64 n3 :: cs.drop 4 := by rw [List.drop_eq_getElem_cons (by omega), (List.getElem?_eq_some_iff.1 q3).2]
  have d2 : cs.drop 2 = .int .u64 n2 :: cs.drop 3 := by rw [List.drop_eq_getElem_cons (by omega), (List.getElem?_eq_some_iff.1 q2).2]
  have d1 : cs.drop 1 = .int .u64 n1 :: cs.drop 2 := by rw [List.drop_eq_getElem_cons (by omega), (List.getElem?_eq_some_iff.1 q1).2]
  have d0 : cs.drop 0 = .int .i64 n0 :: cs.drop 1 := by rw [List.drop_eq_getElem_cons (by omega), (List.getElem?_eq_some_iff.1 q0).2]
  rw [List.drop_zero, d1, d2, d3, d4, hdc] at d0
  exact d0
theorem open_votes {W : World} {base : Nat} {v : Value} {d : DataW H} {ps : List MemPlace} (hok : Value.okWide Try.prog W .any base 27 v) (h : DataW.Trod enc Try.prog W 0 (fun _ => true) true 27 v d ps) :
    ∃ ao cap vs, v = .slice ao (List.length vs) cap ∧ VotesAt W ao vs ∧ (∀ x ∈ vs, x.ok) ∧ vs.length ≤ cap ∧ cap ≤ maxLen := by
  obtain ⟨a0, len0, cap0, rfl⟩ := okWide_slice Try.underlying27 hok
  obtain ⟨fuel, hf0⟩ := h
  have hf : DataW.trod enc Try.prog W 0 (fun _ => true) true fuel 27 [.slice a0 len0 cap0] = some (d, ps) := by simpa [Value.cells] using hf0
  rcases open_slice Try.underlying27 hf with ⟨hcs, _⟩ | ⟨a, len, cap, m, n, DD, PP, hcs, _, hl, hm, hmm, _, hx⟩
  · simp only [List.cons.injEq, and_true] at hcs
    rw [hcs]
    exact ⟨none, 0, [], rfl, .inl rfl, fun x hx => by simp at hx, Nat.le_refl _, by unfold maxLen; omega⟩
  · simp only [List.cons.injEq, and_true] at hcs
    rw [hcs]
    simp only [if_true] at hmm
    subst hmm
    have each : ∀ i, i < len → ∃ k : VoteX, k.ok ∧ ∀ j u, k.cells[j]? = some u → W.cell? ((a.add (i * 37)).add j) = some u := by
      intro i hi
      obtain ⟨cs', k1, k2⟩ := hx i (by omega)
      rw [vt_cellsVote] at k1
      obtain ⟨k, rfl, h3⟩ := open_vote_trod k2
      obtain ⟨_, hlen, hcell⟩ := World.cells?_some k1
      refine ⟨k, h3, fun j u hu => ?_⟩
      have hj := (List.getElem?_eq_some_iff.1 hu).1
      rw [k.cells_length h3.head] at hj
      rw [hcell j (by omega)]
      obtain ⟨h3, h4⟩ := List.getElem?_eq_some_iff.1 hu
      rw [← h4]
      simp
    obtain ⟨f, hfn⟩ := vt_choose vote0 each
    refine ⟨some a, _, (List.range len).map f, by rw [List.length_map, List.length_range], ?_, fun x hx => ?_, by simp; omega, hm⟩
    · by_cases hz : len = 0
      · subst hz; exact .inl rfl
      · have hsp : a.spot = none := by
          have h := (hfn 0 (by omega)).2 0 _ rfl
          have ha : (a.add (0 * 37)).add 0 = a := rfl
          rw [ha] at h
          cases hs : a.spot with
          | none => rfl
          | some s =>
            simp only [World.cell?, hs] at h
            split at h <;> simp at h
        obtain ⟨g, off, spot⟩ := a
        simp only at hsp
        subst hsp
        refine .inr ⟨g, off, rfl, fun j hj => ?_⟩
        have hj' : j < len := by simpa using hj
        have e1 : ((List.range len).map f)[j] = f j := by simp
        rw [e1]
        intro i u hu
        have := (hfn j hj').2 i u hu
        rwa [Addr.add_mid, Addr.add_mid] at this
    · simp only [List.mem_map, List.mem_range] at hx
      obtain ⟨i, hi, rfl⟩ := hx
      exact (hfn i hi).1
end
theorem ch_head (view nodes : Int) (vs : List VoteX) (hv : ∀ v ∈ vs, v.head.length = 32) : (chOf view nodes vs).1.head.length = 32 := by
  unfold chOf
  split
  · rfl
  · have := CS.row_head (good_of view vs hv vs.length (Nat.le_refl _))
    rwa [List.take_length] at this

set_option maxRecDepth 100000 in
set_option maxHeartbeats 12800000 in
theorem chooses_any (ao : Option Addr) (n c : Nat) (vs : List VoteX) (view nodes : Int) (w : World) (h : VotesAt w ao vs) (hok : ∀ v ∈ vs, v.ok) (hn : vs.length = n) (hnod : -9223372036854775808 ≤ nodes ∧ nodes ≤ 9223372036854775807) :
    Calls Try.prog 5 #[.slice ao n c, .int .u64 view, .int .i64 nodes] w fun e w' => e = .returned (.bool true) ∧ Same w w' := by
  have HV := Lib.hid h
  have HOK := Lib.hid hok
  have HN := Lib.hid hn
  have HD := Lib.hid (fun v hv => (hok v hv).head)
  have hzv := Try.zeroVote
  clear h hok hn
  go_enter Try.func5, Try.ntmps5
  go_wp2_with fail
  ((with_reducible refine (speaks20 _).mono ?_); rintro e w1 ⟨rfl, hk1⟩)
  have HS1 := Lib.hid hk1
  clear hk1
  by_cases hbig : (50 : Int) < (n : Int)
  · go_wp2
    go_ret
    exact ⟨rfl, HS1.out⟩
  have hn50 : n ≤ 50 := by omega
  obtain ⟨g3, c3, w3, hrun, hown, hg3⟩ := append_votes (w1.alloc (.cells #[] 31)) w1.heap.size w1.heap.size 0 [] vs ao c (fun v hv => by simp at hv) HD.out (own_votes0 w1) ((HV.out.same HS1.out).same ((Keeps.refl _ _).alloc _)) (by rw [HN.out]; simp; omega) (by simp)
  rw [List.nil_append, HN.out] at hrun
  simp only [List.length_nil] at hrun
  have hk3 : Same w1 w3 := ((Keeps.refl (fun _ => False) w1).alloc _).grown hg3 (fun q e1 e2 => by simp only [Option.some.injEq] at e1; omega)
  have HS3 := Lib.hid (HS1.out.trans hk3 (fun _ _ e => e))
  have HV3 : Hid (VotesAt w3 (some ⟨g3, 0, none⟩) vs) := Lib.hid (votes_own HD.out hown)
  have HRUN := Lib.hid hrun
  clear hrun hown hg3 hk3
  go_wp2_with (first
    | (at_builtin; refine wpList_append_run (by rfl) _ _ 27 (by rfl) _ _ _ w3 (by rfl) (by rfl) HRUN.out ?_))
  ((with_reducible refine (choose_any (some ⟨g3, 0, none⟩) n c3 vs view nodes w3 HV3.out HOK.out HN.out (by omega) hnod).mono ?_); rintro e w4 ⟨hk4, rfl⟩)
  have HXH := Lib.hid (ch_head view nodes vs HD.out)
  have HREF := Lib.hid (fun w => refChoose_any ao n c vs view nodes w)
  unfold ChPost at HREF
  generalize chOf view nodes vs = ch at *
  obtain ⟨x, d, b⟩ := ch
  simp only at HXH HREF ⊢
  have HAL := Lib.hid (vote_all x)
  have HSV := Lib.hid (size_vote x HXH.out)
  have HSE := Lib.hid (size_two vote0 x vote0_head HXH.out)
  have HEQ : Hid (∀ wz, (Op.equalIn 10000 31 (.agg x.cells.toArray) (.agg x.cells.toArray)).run Try.prog wz = .ok true wz) := Lib.hid (fun wz => by rw [vote_equal x x HXH.out HXH.out]; simp)
  obtain ⟨w5, hw5⟩ : ∃ w5, (w4.alloc (.cells vote0.cells.toArray 31)).setRow w4.heap.size x.cells.toArray = w5 := ⟨_, rfl⟩
  have HN5 : Hid ((w4.alloc (.cells vote0.cells.toArray 31)).heap[w4.heap.size]? = some (.cells vote0.cells.toArray 31 (0, 0))) := Lib.hid (heap_alloc_new w4 _)
  have hk5 : Same w3 w5 := by rw [← hw5]; exact (hk4.alloc _).setRow _ _ (.inl (by have := hk4.size; omega))
  have HQ5 : Hid (Whole w5 w4.heap.size 31 x.cells) := Lib.hid (by rw [← hw5]; exact Whole.row (cs := vote0.cells) (heap_alloc_new w4 _))
  have HS5 := Lib.hid (HS3.out.trans hk5 (fun _ _ e => e))
  obtain ⟨B5, hB5⟩ : ∃ q, w4.heap.size = q := ⟨_, rfl⟩
  rw [hB5] at HQ5
  have HB5 := Lib.hid hB5
  have HW5 := Lib.hid hw5
  clear hk4 hw5 hk5 hB5
  go_wp2_with (first
    | (refine wpList_store_row (by rfl) 31 _ _ (by rfl) w4.heap.size x.cells.toArray (by rfl) (by rfl) 31 vote0.cells.toArray HN5.out HSV.out HSE.out HAL.out ?_; rw [HW5.out, HB5.out]))
  ((with_reducible refine (HREF.out w5 (HV.out.same HS5.out) HOK.out HN.out (by omega) hnod).mono ?_); rintro e w6 ⟨hk6, rfl⟩)
  obtain ⟨w7, hw7⟩ : ∃ w7, (w6.alloc (.cells vote0.cells.toArray 31)).setRow w6.heap.size x.cells.toArray = w7 := ⟨_, rfl⟩
  have HN7 : Hid ((w6.alloc (.cells vote0.cells.toArray 31)).heap[w6.heap.size]? = some (.cells vote0.cells.toArray 31 (0, 0))) := Lib.hid (heap_alloc_new w6 _)
  have hk7 : Same w5 w7 := by rw [← hw7]; exact (hk6.alloc _).setRow _ _ (.inl (by have := hk6.size; omega))
  have HQ7 : Hid (Whole w7 w6.heap.size 31 x.cells) := Lib.hid (by rw [← hw7]; exact Whole.row (cs := vote0.cells) (heap_alloc_new w6 _))
  have HQ57 := Lib.hid (HQ5.out.keep hk7 (fun e => e))
  have HS7 := Lib.hid (HS5.out.trans hk7 (fun _ _ e => e))
  have HW7 := Lib.hid hw7
  clear hk6 hw7 hk7
  have hd1 : (d == d) = true := by simp
  have hb1 : (b == b) = true := by simp
  go_wp2_with (first
    | (refine wpList_store_row (by rfl) 31 _ _ (by rfl) w6.heap.size x.cells.toArray (by rfl) (by rfl) 31 vote0.cells.toArray HN7.out HSV.out HSE.out HAL.out ?_; rw [HW7.out])
    | (refine wpList_load_row_w (by rfl) 31 (.tmp 7) (by rfl) B5 (by rfl) 31 x.cells.toArray (0, 0) _ HQ57.out Try.underlying31 rfl HSV.out ?_)
    | (refine wpList_load_row_w (by rfl) 31 (.tmp 10) (by rfl) w6.heap.size (by rfl) 31 x.cells.toArray (0, 0) _ HQ7.out Try.underlying31 rfl HSV.out ?_)
    | (refine wpList_eql_is (by rfl) (.tmp 36) (.tmp 37) 31 31 (by rfl) x.cells.toArray x.cells.toArray true (by rfl) (by rfl) Try.voteGuard HEQ.out ?_))
  go_ret
  exact ⟨rfl, HS7.out⟩
end Go.Proofs.Yteidjpnmfmcfkaa
