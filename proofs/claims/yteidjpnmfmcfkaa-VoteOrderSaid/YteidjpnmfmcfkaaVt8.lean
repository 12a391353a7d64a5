/- Votes out of an argument; a list of votes appended; votes compared. -/
import Derived.Test.YteidjpnmfmcfkaaVt7
import Derived.Test.YteidjpnmfmcfkaaVt6
import Derived.Test.YteidjpnmfmcfkaaFrame
import Derived.Deep.Slices
import Derived.OpenShut
namespace Go.Proofs.Yteidjpnmfmcfkaa
open Go.ChangeShapes Go.WideShapes Go.ChangeAt Go.RowKit Go.Deep
set_option linter.unusedVariables false

instance : DecidableEq VoteX := fun a b => decidable_of_iff (a.node = b.node ∧ a.view = b.view ∧ a.normal = b.normal ∧ a.gen = b.gen ∧ a.commit = b.commit ∧ a.head = b.head)
  ⟨fun ⟨h1, h2, h3, h4, h5, h6⟩ => by cases a; cases b; simp_all, fun h => by subst h; simp⟩
theorem vote_eq_iff (a b : VoteX) : a = b ↔ (a.node = b.node ∧ a.view = b.view ∧ a.normal = b.normal ∧ a.gen = b.gen ∧ a.commit = b.commit ∧ a.head = b.head) :=
  ⟨fun h => by subst h; simp, fun ⟨h1, h2, h3, h4, h5, h6⟩ => by cases a; cases b; simp_all⟩
theorem Try.voteGuard : Try.prog.eqGuardType Try.prog.depth 31 = false := by kernel_rfl
theorem Try.voteFields : (Try.prog.fieldsOf 31).toList.map (fun f => (f.name != "_", f.type, f.offset)) = [(true, 3, 0), (true, 22, 1), (true, 22, 2), (true, 22, 3), (true, 22, 4), (true, 29, 5)] := by kernel_rfl
theorem Try.voteIs : Try.prog.underlying 31 = some (.struct (Try.prog.fieldsOf 31)) := by kernel_rfl
theorem Try.voteIn : Try.prog.stoodInHeld 31 = false := by kernel_rfl
theorem vpart_u64 (v : VoteX) (k : Nat) (x : Int) (h : v.cells[k]? = some (.int .u64 x)) (w : World) : (part 22 v.cells.toArray k).run Try.prog w = .ok (.int .u64 x) w := by
  have h2 := Try.underlying22
  simp [part, isAgg, run_underlying h2, h]
theorem vpart_int (v : VoteX) (k : Nat) (x : Int) (h : v.cells[k]? = some (.int .i64 x)) (w : World) : (part 3 v.cells.toArray k).run Try.prog w = .ok (.int .i64 x) w := by
  have h2 := Try.underlying3
  simp [part, isAgg, run_underlying h2, h]
theorem vpart_head (s : VoteX) (h : s.head.length = 32) (w : World) : (part 29 s.cells.toArray 5).run Try.prog w = .ok (.agg (u8s s.head).toArray) w := by
  have h2 := Try.underlying29
  obtain ⟨i, hi, hs⟩ : ∃ i, Try.prog.info? 29 = some i ∧ i.size = 32 := by
    have h3 := Try.sizeHashV
    cases hq : Try.prog.info? 29 with
    | none => rw [hq] at h3; simp at h3
    | some i => rw [hq] at h3; exact ⟨i, rfl, by simpa using h3⟩
  have he : List.take 32 (List.drop 5 s.cells) = u8s s.head := by
    have hl : (u8s s.head).length = 32 := by rw [u8s_length]; exact h
    show List.take 32 (u8s s.head) = _
    rw [List.take_of_length_le (by omega)]
  simp [part, isAgg, run_underlying h2, sizeOf, typeInfo, hi, hs, he]
theorem vote_equal (s t : VoteX) (hs : s.head.length = 32) (ht : t.head.length = 32) : ∀ wz, (Op.equalIn 10000 31 (.agg s.cells.toArray) (.agg t.cells.toArray)).run Try.prog wz = .ok (decide (s = t)) wz := fun w => by
  obtain ⟨i0, hi0, _, hz1, _⟩ := info_parts (show (Try.prog.info? 5).map (fun i => (i.zero, i.size, i.bytes)) = some (some (.int .u8 0), 1, 1) from by kernel_rfl)
  rw [run_equalIn_struct w 9999 _ _ _ Try.voteIs Try.voteIn]
  have hmem : ∀ f ∈ (Try.prog.fieldsOf 31).toList, (f.name != "_", f.type, f.offset) ∈ [(true, 3, 0), (true, 22, 1), (true, 22, 2), (true, 22, 3), (true, 22, 4), (true, 29, 5)] := fun f hf => by
    rw [← Try.voteFields]
    exact List.mem_map_of_mem hf
  let r : Nat → Bool := fun o => match o with
    | 0 => decide (s.node = t.node) | 1 => decide (s.view = t.view) | 2 => decide (s.normal = t.normal) | 3 => decide (s.gen = t.gen) | 4 => decide (s.commit = t.commit) | _ => decide (s.head = t.head)
  rw [eqFields_run w 9999 _ _ (fun _ o => r o) _ (fun f hf => ?_)]
  · have hmap : ((Try.prog.fieldsOf 31).toList.all fun f => r f.offset) = (((Try.prog.fieldsOf 31).toList.map (fun f => (f.name != "_", f.type, f.offset))).all fun p => r p.2.2) := by
      rw [List.all_map]; rfl
    rw [hmap, Try.voteFields]
    congr 1
    rw [Bool.eq_iff_iff, decide_eq_true_iff, vote_eq_iff]
    simp [r]
  · have h := hmem f hf
    simp only [List.mem_cons, Prod.mk.injEq, List.not_mem_nil, or_false] at h
    have num : ∀ x y : Int, (Op.equalIn 9999 22 (.int .u64 x) (.int .u64 y)).run Try.prog w = .ok (decide (x = y)) w := fun x y => by
      rw [run_equalIn_int w 9998 22 .u64 .u64 _ _ Try.underlying22]
      first | done | rfl | (congr 1; done) | (congr 1; rw [Bool.eq_iff_iff]; simp)
    have numi : ∀ x y : Int, (Op.equalIn 9999 3 (.int .i64 x) (.int .i64 y)).run Try.prog w = .ok (decide (x = y)) w := fun x y => by
      rw [run_equalIn_int w 9998 3 .i64 .i64 _ _ Try.underlying3]
      first | done | rfl | (congr 1; done) | (congr 1; rw [Bool.eq_iff_iff]; simp)
    rcases h with ⟨h1, h2, h3⟩ | ⟨h1, h2, h3⟩ | ⟨h1, h2, h3⟩ | ⟨h1, h2, h3⟩ | ⟨h1, h2, h3⟩ | ⟨h1, h2, h3⟩
    all_goals
      refine ⟨by simpa using h1, ?_⟩
      rw [h2, h3]
    · exact ⟨_, _, vpart_int s 0 _ rfl w, vpart_int t 0 _ rfl w, numi _ _⟩
    · exact ⟨_, _, vpart_u64 s 1 _ rfl w, vpart_u64 t 1 _ rfl w, num _ _⟩
    · exact ⟨_, _, vpart_u64 s 2 _ rfl w, vpart_u64 t 2 _ rfl w, num _ _⟩
    · exact ⟨_, _, vpart_u64 s 3 _ rfl w, vpart_u64 t 3 _ rfl w, num _ _⟩
    · exact ⟨_, _, vpart_u64 s 4 _ rfl w, vpart_u64 t 4 _ rfl w, num _ _⟩
    · exact ⟨_, _, vpart_head s hs w, vpart_head t ht w, run_equal_bytes w 9997 29 5 i0 32 _ _ Try.underlying29 Try.underlying5 hi0 hz1 hs ht⟩

theorem flat_range {w : World} {g : Nat} : ∀ (vs : List VoteX) (off : Nat), (∀ v ∈ vs, v.head.length = 32) → (∀ j (h : j < vs.length), w.rangeAt g (off + j * 37) vs[j].cells) → w.rangeAt g off (vs.flatMap VoteX.cells)
  | [], _, _, _ => fun q u hu => by simp at hu
  | v :: r, off, hl, h => fun q u hu => by
    have hv := v.cells_length (hl v (by simp))
    rw [List.flatMap_cons] at hu
    by_cases hq : q < 37
    · rw [List.getElem?_append_left (by omega)] at hu
      have := h 0 (by simp) q u hu
      rwa [Nat.zero_mul, Nat.add_zero] at this
    · rw [List.getElem?_append_right (by omega), hv] at hu
      have h2 := flat_range r (off + 37) (fun v hv => hl v (by simp [hv])) (fun j hj => by
        have := h (j + 1) (by simpa using hj)
        rw [show off + (j + 1) * 37 = off + 37 + j * 37 from by omega] at this
        simpa using this) (q - 37) u hu
      rwa [show off + 37 + (q - 37) = off + q from by omega] at h2
theorem flat_len (vs : List VoteX) (hl : ∀ v ∈ vs, v.head.length = 32) : (vs.flatMap VoteX.cells).length = vs.length * 37 := by
  induction vs with
  | nil => rfl
  | cons v r ih =>
    rw [List.flatMap_cons, List.length_append, v.cells_length (hl v (by simp)), ih (fun v hv => hl v (by simp [hv])), List.length_cons]
    omega
theorem flat_one (vs : List VoteX) : ∀ u ∈ vs.flatMap VoteX.cells, u.oneCell' = true := fun u hu => by
  obtain ⟨v, _, hv⟩ := List.mem_flatMap.1 hu
  have := vote_all v
  rw [List.all_toArray, List.all_eq_true] at this
  exact this u hv
theorem Try.infoVoteR : (Try.prog.info? 31).map (fun i => (i.zero, i.size, i.bytes)) = some (some (.agg vote0.cells.toArray), 37, 72) := by kernel_rfl
theorem info_partsV {P : Program} {t : TypeId} {z : Value} {s b : Nat} (h : (P.info? t).map (fun i => (i.zero, i.size, i.bytes)) = some (some z, s, b)) : ∃ i, P.info? t = some i ∧ i.zero = some z ∧ i.size = s ∧ i.bytes = b := by
  cases hh : P.info? t with
  | none => rw [hh] at h; simp at h
  | some i =>
    rw [hh] at h
    simp only [Option.map_some, Option.some.injEq, Prod.mk.injEq] at h
    exact ⟨i, rfl, h⟩
/-- append onto an own row of votes. -/
theorem append_votes (w : World) (base g cap : Nat) (us vs : List VoteX) (ao : Option Addr) (c : Nat) (hu : ∀ v ∈ us, v.head.length = 32) (hv : ∀ v ∈ vs, v.head.length = 32) (hown : w.ownsRow base 31 37 (.slice (some ⟨g, 0, none⟩) us.length cap) us.length (us.flatMap VoteX.cells)) (hx : VotesAt w ao vs) (hl : us.length + vs.length ≤ 1000000) (hbase : base ≤ w.heap.size) :
    ∃ g' cap' w', (Builtin.append_ #[27, 27] 27 #[.slice (some ⟨g, 0, none⟩) us.length cap, .slice ao vs.length c]).run Try.prog w = .ok (.slice (some ⟨g', 0, none⟩) (us ++ vs).length cap') w' ∧
      w'.ownsRow base 31 37 (.slice (some ⟨g', 0, none⟩) (us ++ vs).length cap') (us ++ vs).length ((us ++ vs).flatMap VoteX.cells) ∧ w.grownBy w' (some g) := by
  obtain ⟨ie, hie, hz0, hz1, hz2⟩ := info_partsV Try.infoVoteR
  rcases Nat.eq_zero_or_pos vs.length with h0 | h0
  · obtain rfl := List.length_eq_zero_iff.1 h0
    have hn : us.length ≤ cap := by
      rcases hown.2 with ⟨h, _⟩ | ⟨g', cap', cur, h, _, _, h3, _⟩
      · simp at h
      · simp only [Value.slice.injEq] at h; omega
    refine ⟨g, cap, w, ?_, by simpa using hown, World.grownBy.refl _ _⟩
    rw [List.append_nil]
    exact run_append_zero w 27 27 31 ie Try.underlying27 hie _ _ _ _ _ hn
  · rcases hx with h | ⟨g2, off2, rfl, hx⟩
    · subst h; simp at h0
    obtain ⟨g', cap', w', h1, h2, h3, _, _⟩ := run_append_lies (P := Try.prog) w 27 27 base 31 ie _ 37 72 Try.underlying27 hie hz0 hz1 hz2 (by rw [Value.cells, List.size_toArray, vote0.cells_length rfl]) (by omega) _ us.length _ hown ⟨g2, off2, none⟩ vs.length c (vs.flatMap VoteX.cells) (flat_len vs hv)
      (fun j u hj => by rw [Addr.add_mid]; exact flat_range vs off2 hv hx j u hj) (flat_one vs) h0 (by unfold maxLen; omega) (by omega) hbase w.heap.size rfl
    refine ⟨g', cap', w', by rw [List.length_append]; exact h1, ?_, h3⟩
    rw [List.length_append, List.flatMap_append]
    exact h2
theorem votes_own {w : World} {base g cap : Nat} {vs : List VoteX} (hl : ∀ v ∈ vs, v.head.length = 32) (h : w.ownsRow base 31 37 (.slice (some ⟨g, 0, none⟩) vs.length cap) vs.length (vs.flatMap VoteX.cells)) : VotesAt w (some ⟨g, 0, none⟩) vs := by
  refine .inr ⟨g, 0, rfl, fun j hj i u hu => ?_⟩
  have hget : (vs.flatMap VoteX.cells)[j * 37 + i]? = some u := by
    clear h
    induction vs generalizing j with
    | nil => simp at hj
    | cons v r ih =>
      have hv := v.cells_length (hl v (by simp))
      rcases j with _ | j
      · simp only [List.getElem_cons_zero] at hu
        have hi := (List.getElem?_eq_some_iff.1 hu).1
        rw [List.flatMap_cons, Nat.zero_mul, Nat.zero_add, List.getElem?_append_left hi]; exact hu
      · have := ih (fun k hk => hl k (by simp [hk])) j (by simpa using hj) (by simpa using hu)
        rw [List.flatMap_cons, List.getElem?_append_right (by omega), hv, show (j + 1) * 37 + i - 37 = j * 37 + i from by omega]
        exact this
  have := h.cells rfl (j * 37 + i) u hget
  have hadd : (⟨g, 0, none⟩ : Addr).add (j * 37 + i) = ⟨g, 0 + j * 37 + i, none⟩ := by unfold Addr.add; split <;> simp_all
  rw [hadd] at this
  exact this
theorem own_votes0 (w : World) : (w.alloc (.cells #[] 31)).ownsRow w.heap.size 31 37 (.slice (some ⟨w.heap.size, 0, none⟩) ([] : List VoteX).length 0) ([] : List VoteX).length (([] : List VoteX).flatMap VoteX.cells) := by
  have := World.ownsRow_made (base := w.heap.size) (e := 31) (size := 37) w #[] 0 (Nat.le_refl _) (by unfold maxLen; omega) (by simp)
  simpa using this
end Go.Proofs.Yteidjpnmfmcfkaa
