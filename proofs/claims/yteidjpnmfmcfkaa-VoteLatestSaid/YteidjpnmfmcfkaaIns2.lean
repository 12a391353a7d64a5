/- slices.Insert over rows of VoteX: one element put in between. -/
import Derived.Test.YteidjpnmfmcfkaaIns1
namespace Go.Proofs.Yteidjpnmfmcfkaa
open Go.RowKit
set_option linter.unusedVariables false

def InsPost (w : World) (v : Value) (n : Nat) (xs ys : List Value) (i : Nat) (e : Ending) (w' : World) : Prop :=
  ∃ g cap, e = .returned (.slice (some ⟨g, 0, none⟩) (n + 1) cap) ∧ (∃ base, w'.ownsRow base 31 37 (.slice (some ⟨g, 0, none⟩) (n + 1) cap) (n + 1) (xs.take (i * 37) ++ ys ++ xs.drop (i * 37))) ∧ Keeps (fun k => v.ownBlock = some k) w w' ∧ (v.ownBlock = some g ∨ w.heap.size ≤ g)

set_option maxRecDepth 100000 in
set_option maxHeartbeats 6400000 in
/-- At the end. -/
theorem ins_end (w : World) (base : Nat) (v : Value) (n : Nat) (xs ys : List Value) (vb vc : Nat) (hown : w.ownsRow base 31 37 v n xs) (hb : base ≤ w.heap.size) (hn : n ≤ 1000000)
    (hy : ys.length = 37) (hvb : w.heap[vb]? = some (.cells ys.toArray 31 (0, 0))) (h1y : ∀ u ∈ ys, u.oneCell' = true) :
    Calls Try.prog 21 #[v, .int .i64 n, .slice (some ⟨vb, 0, none⟩) 1 vc] w (InsPost w v n xs ys n) := by
  obtain ⟨ie, hie, hz0, hz1, hz2⟩ := info_partsV Try.infoVoteR
  have hxl : xs.length = n * 37 := hown.1
  obtain ⟨g, cap, w', h1, h2, h3, h4, h5⟩ := run_append_lies (P := Try.prog) w 27 27 base 31 ie _ 37 72 Try.underlying27 hie hz0 hz1 hz2 (by rw [Value.cells, List.size_toArray, (vote0.cells_length rfl)]) (by omega) v n xs hown ⟨vb, 0, none⟩ 1 vc ys (by omega)
    (fun j u hj => by rw [Addr.add_mid, Nat.zero_add]; exact cell_of_rowL hvb j u (by simpa using hj)) h1y (by omega) (by unfold maxLen; omega) (by omega) hb w.heap.size rfl
  have HRUN := Lib.hid h1
  have HP : Hid (InsPost w v n xs ys n (.returned (.slice (some ⟨g, 0, none⟩) (n + 1) cap)) w') := Lib.hid ⟨g, cap, rfl, ⟨base, by rw [← hxl, List.take_length, List.drop_length, List.append_nil]; exact h2⟩, (Keeps.refl _ _).grown h3 (fun k hk _ => hk), h4.imp id (fun e => by omega)⟩
  rcases hown.2 with ⟨rfl, h0⟩ | ⟨g0, cap0, cur0, rfl, hb0, hg0, hc1, hc2, hc3, hc4⟩
  · subst h0
    clear h1 h2 h3 h4 h5 hown hvb hxl
    go_enter Try.func21, Try.ntmps21
    go_wp2_with (first
      | (at_builtin; refine wpList_append_run (by rfl) _ _ 27 (by rfl) _ _ _ w' (by rfl) (by rfl) HRUN.out ?_))
    go_ret
    exact HP.out
  · clear h1 h2 h3 h4 h5 hown hvb hxl hg0 hc3 hc4
    unfold maxLen at hc2
    go_enter Try.func21, Try.ntmps21
    go_wp2_with (first
      | (at_builtin; refine wpList_append_run (by rfl) _ _ 27 (by rfl) _ _ _ w' (by rfl) (by rfl) HRUN.out ?_))
    all_goals
      go_ret
      exact HP.out

set_option maxRecDepth 100000 in
set_option maxHeartbeats 12800000 in
/-- In between, where there is room. -/
theorem ins_room (w : World) (base : Nat) (g cap n : Nat) (cur : Array Value) (xs ys : List Value) (i vb : Nat) (hi : i < n) (hb : base ≤ g) (hg : w.heap[g]? = some (.cells cur 31 (0, 0))) (hc2 : cap ≤ maxLen) (hc3 : cur.size = cap * 37) (hc4 : cur.toList.take (n * 37) = xs)
    (hroom : n + 1 ≤ cap) (h1x : ∀ u ∈ xs, u.oneCell' = true) (hn : n ≤ 1000000)
    (hy : ys.length = 37) (hvb : w.heap[vb]? = some (.cells ys.toArray 31 (0, 0))) (hne : vb ≠ g) (h1y : ∀ u ∈ ys, u.oneCell' = true) :
    Calls Try.prog 21 #[.slice (some ⟨g, 0, none⟩) n cap, .int .i64 i, .slice (some ⟨vb, 0, none⟩) 1 1] w (InsPost w (.slice (some ⟨g, 0, none⟩) n cap) n xs ys i) := by
  obtain ⟨ie, hie, hz0, hz1, hz2⟩ := info_partsV Try.infoVoteR
  have hsz : (Try.prog.info? 31).map (·.size) = some 37 := by rw [hie]; simp [hz1]
  have hck : (n + 1) * 37 ≤ cur.toList.length := by rw [Array.length_toList, hc3]; exact Nat.mul_le_mul_right _ hroom
  have hck2 : cur.toList.length = cap * 37 := by rw [Array.length_toList, hc3]
  have hdl : (xs.drop (i * 37)).length = (n - i) * 37 := by rw [List.length_drop, ← hc4, List.length_take]; omega
  obtain ⟨row1, hrow1⟩ : ∃ row1, (cur.toList.take ((i + 1) * 37) ++ xs.drop (i * 37) ++ cur.toList.drop ((i + 1) * 37 + (xs.drop (i * 37)).length)).toArray = row1 := ⟨_, rfl⟩
  have hr1s : row1.size = cur.size := by
    rw [← hrow1, List.size_toArray, row_splice_len _ _ _ (by rw [hdl]; omega), Array.length_toList]
  obtain ⟨row2, hrow2⟩ : ∃ row2, (row1.toList.take (i * 37) ++ ys ++ row1.toList.drop (i * 37 + ys.length)).toArray = row2 := ⟨_, rfl⟩
  have hr2s : row2.size = cur.size := by
    rw [← hrow2, List.size_toArray, row_splice_len _ _ _ (by rw [hy, Array.length_toList, hr1s, ← Array.length_toList]; omega), Array.length_toList, hr1s]
  have hr2t : row2.toList.take ((n + 1) * 37) = xs.take (i * 37) ++ ys ++ xs.drop (i * 37) := by
    rw [← hrow2, ← hrow1, ← hc4, List.toList_toArray, List.toList_toArray]
    exact ins_two cur.toList i 37 n ys hy (by omega) hck
  have HP : Hid (∀ w', w'.heap = ((w.setRow g row1).setRow g row2).heap → w'.os = w.os → w'.tape = w.tape → w'.output = w.output → InsPost w (.slice (some ⟨g, 0, none⟩) n cap) n xs ys i (.returned (.slice (some ⟨g, 0, none⟩) (n + 1) cap)) w') := Lib.hid (fun w' e1 e2 e3 e4 => by
    have hgl : g < w.heap.size := lt_of_block hg
    have hg1 : (w.setRow g row1).heap[g]? = some (.cells row1 31 (0, 0)) := setRow_heap w g cur row1 31 (0, 0) hg
    have hg2 : ((w.setRow g row1).setRow g row2).heap[g]? = some (.cells row2 31 (0, 0)) := setRow_heap _ g row1 row2 31 (0, 0) hg1
    have hk : Keeps (fun k => (Value.slice (some ⟨g, 0, none⟩) n cap).ownBlock = some k) w ((w.setRow g row1).setRow g row2) := ((Keeps.refl (fun k => (Value.slice (some ⟨g, 0, none⟩) n cap).ownBlock = some k) w).setRow g row1 (.inr rfl)).setRow g row2 (.inr rfl)
    refine ⟨g, cap, rfl, ⟨base, ⟨?_, .inr ⟨g, cap, row2, rfl, hb, by rw [e1]; exact hg2, hroom, hc2, by rw [hr2s]; exact hc3, hr2t⟩⟩⟩, ⟨e2, e3, e4, by rw [e1]; exact hk.size, fun k h1 h2 => by rw [e1]; exact hk.block k h1 h2⟩, .inl rfl⟩
    rw [← hr2t, List.length_take, Array.length_toList, hr2s, hc3]
    have := Nat.mul_le_mul_right 37 hroom
    omega)
  have HC1 : Hid (∀ W : World, W.heap = w.heap → ∀ ty dc sc, (Builtin.copy_ #[27, 27] ty #[.slice (some ⟨g, (i + 1) * 37, none⟩) (n - i) dc, .slice (some ⟨g, i * 37, none⟩) (n + 1 - i) sc]).run Try.prog W = .ok (goInt (Nat.min (n + 1 - i) (n - i))) (W.setRow g row1)) := Lib.hid (fun W hW ty dc sc => by
    rw [← hrow1]
    exact run_copy_row_k W _ _ ty 31 37 g ((i + 1) * 37) _ dc ⟨g, i * 37, none⟩ _ sc cur 31 (xs.drop (i * 37)) Try.underlying27 hsz (by rw [hW]; exact hg) (by rw [hdl]; congr 1; simp only [Nat.min_def]; split <;> omega)
      (fun j u hj => by
        rw [Addr.add_mid]
        refine cell_of_rowL (by rw [hW]; exact hg) _ u ?_
        rw [List.getElem?_drop, ← hc4, List.getElem?_take] at hj
        split at hj
        · exact hj
        · cases hj)
      (by rw [hdl, hc3]; have := Nat.mul_le_mul_right 37 hroom; omega) (fun u hu => h1x u (List.mem_of_mem_drop hu)))
  have hm1 : Nat.min 1 (n + 1 - i) = 1 := by simp only [Nat.min_def]; split <;> omega
  have HC2 : Hid (∀ W : World, W.heap = (w.setRow g row1).heap → ∀ ty dc, (Builtin.copy_ #[27, 27] ty #[.slice (some ⟨g, i * 37, none⟩) (n + 1 - i) dc, .slice (some ⟨vb, 0, none⟩) 1 1]).run Try.prog W = .ok (goInt (Nat.min 1 (n + 1 - i))) (W.setRow g row2)) := Lib.hid (fun W hW ty dc => by
    rw [← hrow2]
    have hg1 : (w.setRow g row1).heap[g]? = some (.cells row1 31 (0, 0)) := setRow_heap w g cur row1 31 (0, 0) hg
    have hv1 : (w.setRow g row1).heap[vb]? = some (.cells ys.toArray 31 (0, 0)) := ((Keeps.refl (fun k => k = g) w).setRow g row1 (.inr rfl)).obj hvb hne
    exact run_copy_row_k W _ _ ty 31 37 g (i * 37) _ dc ⟨vb, 0, none⟩ 1 1 row1 31 ys Try.underlying27 hsz (by rw [hW]; exact hg1) (by rw [hy, hm1])
      (fun j u hj => by
        rw [Addr.add_mid, Nat.zero_add]
        exact cell_of_rowL (by rw [hW]; exact hv1) j u (by simpa using hj))
      (by rw [hy, hr1s, hc3]; have := Nat.mul_le_mul_right 37 hroom; omega) h1y)
  have hov : ∀ o lb cb, (callFunc 25 #[.slice (some ⟨vb, 0, none⟩) 1 1, .slice (some ⟨g, o, none⟩) lb cb]).run Try.prog w = .ok (.value (.bool false)) w := fun o lb cb => by
    rw [run_callFunc_extern Try.func25 (by kernel_rfl) (by kernel_rfl) (by kernel_rfl) (e := Extern.SlicesOverlaps.overlaps #[27, 27] #[4]) (by kernel_rfl),
      Lib.run_overlaps_apart w 27 4 31 Try.underlying27 37 (fun w => by simp [sizeOf, typeInfo, hie, hz1]) ⟨vb, 0, none⟩ ⟨g, o, none⟩ 1 1 lb cb hne 31 31 ys.toArray.size cur.size (by simp [World.shape?, hvb]) (by simp [World.shape?, hg]) (by rw [hc3]; omega) (by simp [World.frozen?, hvb]) (by simp [World.frozen?, hvb])]
    rfl
  have hcap : cap ≤ 9223372036854775807 := by unfold maxLen at hc2; omega
  have hin : ¬ (i : Int) = (n : Int) := by omega
  have hge : (0 : Int) ≤ (i : Int) ∧ (i : Int) ≤ (n : Int) ∧ (i : Int) + 1 ≤ (n : Int) ∧ (n : Int) + 1 ≤ (cap : Int) := by omega
  have hb2 : ¬ (cap = i + 1) := by omega
  have hb4 : ¬ (cap = i) := by omega
  have htn : ((i : Int) + 1).toNat = i + 1 := by omega
  have hw1 : IntKind.i64.wrap ((i : Int) + 1) = (i : Int) + 1 := by rw [IntKind.wrap_i64]; omega
  have hb1 : (0 : Int) ≤ (i : Int) + 1 := by omega
  have hb3 : (i : Int) + 1 ≤ (n : Int) + 1 := by omega
  have hb5 : (i : Int) ≤ (n : Int) + 1 := by omega
  have mixed : Try.prog.follows .mixedOrders = true := by kernel_rfl
  clear hm1 hg hc2 hc3 hc4 hck hck2 hdl hrow1 hrow2 hr1s hr2s hr2t hvb hz0 hz1 hz2 hie hsz
  go_enter Try.func21, Try.ntmps21
  go_wp2_with (simp only [hov])
  go_region_law_o (refine step_copy_eq rfl _ _ 27 27 rfl _ _ _ _ (by simp [Act.eval, Act.put]) (by simp [Act.eval, Act.put]) (HC1.out w.drew rfl _ (cap - (i + 1)) (cap - i)) ?_)
  go_wp2_with (refine wpList_copy_eq (by rfl) _ _ 27 27 rfl _ _ _ _ rfl rfl (HC2.out (w.drew.setRow g row1) rfl _ (cap - i)) ?_)
  go_ret
  exact HP.out _ rfl rfl rfl rfl

set_option maxRecDepth 100000 in
set_option maxHeartbeats 12800000 in
/-- In between, where there is no room. -/
theorem ins_grow (w : World) (base : Nat) (g cap n : Nat) (cur : Array Value) (xs ys : List Value) (i vb : Nat) (hi : i < n) (hb : base ≤ g) (hg : w.heap[g]? = some (.cells cur 31 (0, 0))) (hcn : n ≤ cap) (hc2 : cap ≤ maxLen) (hc3 : cur.size = cap * 37) (hc4 : cur.toList.take (n * 37) = xs)
    (hroom : cap < n + 1) (h1x : ∀ u ∈ xs, u.oneCell' = true) (hn : n ≤ 1000000)
    (hy : ys.length = 37) (hvb : w.heap[vb]? = some (.cells ys.toArray 31 (0, 0))) (hne : vb ≠ g) (h1y : ∀ u ∈ ys, u.oneCell' = true) :
    Calls Try.prog 21 #[.slice (some ⟨g, 0, none⟩) n cap, .int .i64 i, .slice (some ⟨vb, 0, none⟩) 1 1] w (InsPost w (.slice (some ⟨g, 0, none⟩) n cap) n xs ys i) := by
  obtain ⟨ie, hie, hz0, hz1, hz2⟩ := info_partsV Try.infoVoteR
  have hsz : (Try.prog.info? 31).map (·.size) = some 37 := by rw [hie]; simp [hz1]
  have hxl : xs.length = n * 37 := by rw [← hc4, List.length_take, Array.length_toList, hc3]; omega
  have hcell : ∀ j u, xs[j]? = some u → w.cell? ⟨g, j, none⟩ = some u := fun j u hj => by
    refine cell_of_rowL hg j u ?_
    rw [← hc4, List.getElem?_take] at hj
    split at hj
    · exact hj
    · cases hj
  have hdl : (xs.drop (i * 37)).length = (n - i) * 37 := by rw [List.length_drop, hxl]; omega
  obtain ⟨G, hG⟩ : ∃ G, G = grownCap w (n + 1) cap 31 := ⟨_, rfl⟩
  have hGn : n + 1 ≤ G := by rw [hG]; exact grownCap_ge w _ _ _
  have hG63 : G ≤ maxLen := by rw [hG]; exact grownCap_le_maxLen w _ _ _ (by unfold maxLen; omega)
  obtain ⟨zs, hzs⟩ : ∃ zs, zs = (Builtin.zeroCells (Value.agg vote0.cells.toArray).cells (n + 1 - i) ++ Builtin.zeroCells (Value.agg vote0.cells.toArray).cells (G - (n + 1))).toList := ⟨_, rfl⟩
  have hzl : zs.length = (G - i) * 37 := by
    rw [hzs]
    simp only [Builtin.zeroCells, Value.cells, Array.toList_append, List.length_append, Array.length_toList, Array.size_map, Array.size_range]
    rw [List.size_toArray, (vote0.cells_length rfl), ← Nat.add_mul]
    congr 1; omega
  obtain ⟨row0, hrow0⟩ : ∃ row0, (xs.take (i * 37) ++ zs).toArray = row0 := ⟨_, rfl⟩
  have hr0s : row0.size = G * 37 := by
    rw [← hrow0, List.size_toArray, List.length_append, List.length_take, hxl, hzl]; omega
  obtain ⟨row1, hrow1⟩ : ∃ row1, (row0.toList.take (i * 37) ++ ys ++ row0.toList.drop (i * 37 + ys.length)).toArray = row1 := ⟨_, rfl⟩
  have hr1s : row1.size = G * 37 := by
    rw [← hrow1, List.size_toArray, row_splice_len _ _ _ (by rw [hy, Array.length_toList, hr0s]; omega), Array.length_toList, hr0s]
  obtain ⟨row2, hrow2⟩ : ∃ row2, (row1.toList.take ((i + 1) * 37) ++ xs.drop (i * 37) ++ row1.toList.drop ((i + 1) * 37 + (xs.drop (i * 37)).length)).toArray = row2 := ⟨_, rfl⟩
  have hr2s : row2.size = G * 37 := by
    rw [← hrow2, List.size_toArray, row_splice_len _ _ _ (by rw [hdl, Array.length_toList, hr1s]; omega), Array.length_toList, hr1s]
  have hr2t : row2.toList.take ((n + 1) * 37) = xs.take (i * 37) ++ ys ++ xs.drop (i * 37) := by
    rw [← hrow2, ← hrow1, ← hrow0, List.toList_toArray, List.toList_toArray, List.toList_toArray]
    exact ins_new xs zs i 37 n ys hy hxl (by omega) (by rw [hzl]; have := Nat.mul_le_mul_right 37 hGn; omega)
  obtain ⟨N, hN⟩ : ∃ N, w.heap.size = N := ⟨_, rfl⟩
  have hgN : g < N := by rw [← hN]; exact lt_of_block hg
  have hvN : vb < N := by rw [← hN]; exact lt_of_block hvb
  obtain ⟨W0, hW0⟩ : ∃ W0, w.drew.alloc (.cells row0 31) = W0 := ⟨_, rfl⟩
  have h0N : W0.heap[N]? = some (.cells row0 31 (0, 0)) := by rw [← hW0, ← hN]; exact heap_alloc_new w.drew _
  have h1N : (W0.setRow N row1).heap[N]? = some (.cells row1 31 (0, 0)) := setRow_heap W0 N row0 row1 31 (0, 0) h0N
  have h2N : ((W0.setRow N row1).setRow N row2).heap[N]? = some (.cells row2 31 (0, 0)) := setRow_heap _ N row1 row2 31 (0, 0) h1N
  have hk0 : Same w W0 := by rw [← hW0]; exact ((Keeps.refl _ w).drew).alloc _
  have hk1 : Same w (W0.setRow N row1) := hk0.setRow N row1 (.inl (by omega))
  have hk2 : Same w ((W0.setRow N row1).setRow N row2) := hk1.setRow N row2 (.inl (by omega))
  have HP : Hid (∀ w', w'.heap = ((W0.setRow N row1).setRow N row2).heap → w'.os = w.os → w'.tape = w.tape → w'.output = w.output → InsPost w (.slice (some ⟨g, 0, none⟩) n cap) n xs ys i (.returned (.slice (some ⟨N, 0, none⟩) (n + 1) G)) w') := Lib.hid (fun w' e1 e2 e3 e4 => by
    refine ⟨N, G, rfl, ⟨N, ⟨?_, .inr ⟨N, G, row2, rfl, Nat.le_refl _, by rw [e1]; exact h2N, hGn, hG63, hr2s, hr2t⟩⟩⟩, ⟨e2, e3, e4, by rw [e1]; exact hk2.size, fun k h1 h2 => by rw [e1]; exact hk2.block k h1 (fun e => e)⟩, .inr (by omega)⟩
    rw [← hr2t, List.length_take, Array.length_toList, hr2s]
    have := Nat.mul_le_mul_right 37 hGn
    omega)
  have HRZ : Hid (∀ ty, (Builtin.append_ #[27, 3] ty #[.slice (some ⟨g, 0, none⟩) i cap, .int .i64 ((n : Int) + 1 - (i : Int))]).run Try.prog w = .ok (.slice (some ⟨N, 0, none⟩) (n + 1) G) W0) := Lib.hid (fun ty => by
    have hik : i + (n + 1 - i) = n + 1 := by omega
    have hold : (Builtin.firstCells ie.size i (.slice (some ⟨g, 0, none⟩) i cap)).run Try.prog w.drew = .ok (xs.take (i * 37)).toArray w.drew := by
      rw [hz1]
      exact run_firstCells_some w.drew 37 i ⟨g, 0, none⟩ i cap (xs.take (i * 37)) (by rw [List.length_take, hxl]; omega) (fun j v hj => by
        rw [Addr.add_mid, Nat.zero_add]
        rw [List.getElem?_take] at hj
        split at hj
        · exact hcell j v hj
        · cases hj)
    have h := Lib.run_append_grow_zeros w 27 3 ty 31 ie _ .i64 .i64 Try.underlying27 Try.underlying3 hie hz0 (some ⟨g, 0, none⟩) i cap (xs.take (i * 37)) hold (n + 1 - i) (by omega) (by omega) (by omega) (by omega) (by rw [hz2]; omega) (by rw [hz2, hik]; exact growslice_fits hroom (by omega))
    rw [hik, ← hG] at h
    have hkk : (n : Int) + 1 - (i : Int) = ((n + 1 - i : Nat) : Int) := by omega
    rw [hkk, h, ← hN, ← hW0, ← hrow0, hzs]
    congr 4
    simp [Array.append_assoc])
  have HC1 : Hid (∀ W : World, W.heap = W0.heap → ∀ ty dc, (Builtin.copy_ #[27, 27] ty #[.slice (some ⟨N, i * 37, none⟩) (n + 1 - i) dc, .slice (some ⟨vb, 0, none⟩) 1 1]).run Try.prog W = .ok (goInt (Nat.min 1 (n + 1 - i))) (W.setRow N row1)) := Lib.hid (fun W hW ty dc => by
    rw [← hrow1]
    have hv1 : W0.heap[vb]? = some (.cells ys.toArray 31 (0, 0)) := hk0.obj hvb (fun e => e)
    have hm1 : Nat.min 1 (n + 1 - i) = 1 := by simp only [Nat.min_def]; split <;> omega
    exact run_copy_row_k W _ _ ty 31 37 N (i * 37) _ dc ⟨vb, 0, none⟩ 1 1 row0 31 ys Try.underlying27 hsz (by rw [hW]; exact h0N) (by rw [hy, hm1])
      (fun j u hj => by
        rw [Addr.add_mid, Nat.zero_add]
        exact cell_of_rowL (by rw [hW]; exact hv1) j u (by simpa using hj))
      (by rw [hy, hr0s]; omega) h1y)
  have HC2 : Hid (∀ W : World, W.heap = (W0.setRow N row1).heap → ∀ ty dc sc, (Builtin.copy_ #[27, 27] ty #[.slice (some ⟨N, (i + 1) * 37, none⟩) (n - i) dc, .slice (some ⟨g, i * 37, none⟩) (n - i) sc]).run Try.prog W = .ok (goInt (Nat.min (n - i) (n - i))) (W.setRow N row2)) := Lib.hid (fun W hW ty dc sc => by
    rw [← hrow2]
    have hg1 : (W0.setRow N row1).heap[g]? = some (.cells cur 31 (0, 0)) := hk1.obj hg (fun e => e)
    exact run_copy_row_k W _ _ ty 31 37 N ((i + 1) * 37) _ dc ⟨g, i * 37, none⟩ _ sc row1 31 (xs.drop (i * 37)) Try.underlying27 hsz (by rw [hW]; exact h1N) (by rw [hdl]; congr 1; simp only [Nat.min_def]; split <;> omega)
      (fun j u hj => by
        rw [Addr.add_mid]
        refine cell_of_rowL (by rw [hW]; exact hg1) _ u ?_
        rw [List.getElem?_drop, ← hc4, List.getElem?_take] at hj
        split at hj
        · exact hj
        · cases hj)
      (by rw [hdl, hr1s]; have := Nat.mul_le_mul_right 37 hGn; omega) (fun u hu => h1x u (List.mem_of_mem_drop hu)))
  have hcap : cap ≤ 9223372036854775807 := by unfold maxLen at hc2; omega
  have hG64 : G ≤ 9223372036854775807 := by unfold maxLen at hG63; omega
  have hin : ¬ (i : Int) = (n : Int) := by omega
  have hz3 : (cap : Int) < (n : Int) + 1 := by omega
  have hw1 : IntKind.i64.wrap ((i : Int) + 1) = (i : Int) + 1 := by rw [IntKind.wrap_i64]; omega
  have hge : (0 : Int) ≤ (i : Int) ∧ (i : Int) ≤ (n : Int) ∧ (i : Int) + 1 ≤ (n : Int) := by omega
  have htn : ((i : Int) + 1).toNat = i + 1 := by omega
  have hGi : ¬ (G = i) := by omega
  have hGim : ¬ (G = i + 1) := by omega
  have hci : ¬ (cap = i) := by omega
  have mixed : Try.prog.follows .mixedOrders = true := by kernel_rfl
  have hb1 : (0 : Int) ≤ (i : Int) + 1 := by omega
  have hb3 : (i : Int) + 1 ≤ (n : Int) + 1 := by omega
  have hb5 : (i : Int) ≤ (n : Int) + 1 := by omega
  have HE : Hid (w.os = W0.os ∧ w.tape = W0.tape ∧ w.output = W0.output) := Lib.hid (by rw [← hW0]; exact ⟨rfl, rfl, rfl⟩)
  clear hg hc2 hc3 hc4 hxl hcell hdl hG hG63 hzs hzl hrow0 hr0s hrow1 hr1s hrow2 hr2s hr2t hN hgN hvN hW0 h0N h1N h2N hk0 hk1 hk2 hvb hz0 hz1 hz2 hie hsz
  go_enter Try.func21, Try.ntmps21
  go_wp2_with (first
    | (at_builtin; refine Lib.wpList_append_run _ rfl _ _ _ _ rfl _ _ rfl rfl _ _ (HRZ.out _) ?_)
    | (refine wpList_copy_eq (by rfl) _ _ 27 27 rfl _ _ _ _ rfl rfl (HC1.out W0 rfl _ (G - i)) ?_))
  go_region_law_o (refine step_copy_eq rfl _ _ 27 27 rfl _ _ _ _ (by simp [Act.eval, Act.put]) (by simp [Act.eval, Act.put]) (HC2.out (W0.setRow N row1).drew rfl _ (G - (i + 1)) (cap - i)) ?_)
  go_wp2
  go_ret
  exact HP.out _ rfl HE.out.1.symm HE.out.2.1.symm HE.out.2.2.symm

/-- One element, put in between. -/
theorem insert_any (w : World) (base : Nat) (v : Value) (n : Nat) (xs ys : List Value) (i vb : Nat) (hi : i ≤ n) (hown : w.ownsRow base 31 37 v n xs) (hb : base ≤ w.heap.size) (hn : n ≤ 1000000) (h1x : ∀ u ∈ xs, u.oneCell' = true)
    (hy : ys.length = 37) (hvb : w.heap[vb]? = some (.cells ys.toArray 31 (0, 0))) (hne : v.ownBlock ≠ some vb) (h1y : ∀ u ∈ ys, u.oneCell' = true) :
    Calls Try.prog 21 #[v, .int .i64 i, .slice (some ⟨vb, 0, none⟩) 1 1] w (InsPost w v n xs ys i) := by
  by_cases hin : i = n
  · subst hin
    exact ins_end w base v i xs ys vb 1 hown hb hn hy hvb h1y
  · rcases hown.2 with ⟨rfl, h0⟩ | ⟨g, cap, cur, rfl, hb0, hg, hc1, hc2, hc3, hc4⟩
    · omega
    · have hne' : vb ≠ g := fun e => hne (by rw [e]; rfl)
      by_cases hroom : n + 1 ≤ cap
      · exact ins_room w base g cap n cur xs ys i vb (by omega) hb0 hg hc2 hc3 hc4 hroom h1x hn hy hvb hne' h1y
      · exact ins_grow w base g cap n cur xs ys i vb (by omega) hb0 hg hc1 hc2 hc3 hc4 (by omega) h1x hn hy hvb hne' h1y
end Go.Proofs.Yteidjpnmfmcfkaa
