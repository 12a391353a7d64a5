/- A copy of an answer. -/
import Derived.Test.YtickphkeeflbbaaAnsR1
import Derived.Test.YtickphkeeflbbaaFresh
import Derived.Test.YtickphkeeflbbaaRow
import Derived.Test.YtickphkeeflbbaaPlan4
import Derived.Test.YtickphkeeflbbaaAns2
namespace Go.Proofs.Ytickphkeeflbbaa
open Go.RowKit
set_option linter.unusedVariables false

/-- A literal that holds nothing is a row of its own. -/
theorem own_none {w : World} {lo L : Nat} {e : TypeId} (h : lo ≤ L) (hg : w.heap[L]? = some (.cells #[] e (0, 0))) : w.ownsRow lo e 1 (.slice (some ⟨L, 0, none⟩) 0 0) 0 [] :=
  ⟨by simp, .inr ⟨L, 0, #[], rfl, h, hg, Nat.le_refl _, by unfold maxLen; omega, by simp, by simp⟩⟩

/-- append of whatever one-cell values onto a literal that holds nothing: they lie in new memory. -/
theorem run_append_none {P : Program} (w : World) (t ty e : TypeId) (i : TypeInfo) (z : Value) (bytes : Nat) (ht : P.underlying t = some (.slice e)) (hi : P.info? e = some i) (hz : i.zero = some z) (hs : i.size = 1) (hb : i.bytes = bytes) (hz1 : z.cells.size = 1)
    (lo L m : Nat) (news : List Value) (x : Value) (hL : lo ≤ L) (hg : w.heap[L]? = some (.cells #[] e (0, 0))) (hl : news.length = m)
    (hx : (∃ a c, x = .slice (some a) m c ∧ ∀ j u, news[j]? = some u → w.cell? (a.add j) = some u) ∨ (∃ c, x = .slice none 0 c ∧ m = 0)) (h63 : m ≤ maxLen) (hby : m * bytes ≤ 140737488355328) :
    ∃ g c w', (Builtin.append_ #[t, t] ty #[.slice (some ⟨L, 0, none⟩) 0 0, x]).run P w = .ok (.slice (some ⟨g, 0, none⟩) m c) w' ∧ Same w w' ∧ w'.ownsRow lo e 1 (.slice (some ⟨g, 0, none⟩) m c) m news := by
  have hLw := lt_of_block hg
  rcases Nat.eq_zero_or_pos m with h0 | h0
  · subst h0
    obtain rfl := List.length_eq_zero_iff.1 hl
    obtain ⟨ao, c, rfl⟩ : ∃ ao c, x = .slice ao 0 c := by
      rcases hx with ⟨a, c, e, _⟩ | ⟨c, e, _⟩
      · exact ⟨some a, c, e⟩
      · exact ⟨none, c, e⟩
    exact ⟨L, 0, w, run_append_zero w t ty e i ht hi _ _ _ _ _ (Nat.le_refl _), Keeps.refl _ _, own_none hL hg⟩
  · rcases hx with ⟨a, c, rfl, hc⟩ | ⟨c, rfl, h⟩
    · obtain ⟨v', w', hr, h1, h2⟩ := run_append_arg_grows (P := P) w t ty e i z 1 bytes ht hi hz hs hb hz1 (by omega) ⟨L, 0, none⟩ 0 0 [] (by simp) (by simp) a m c news (by rw [hl, Nat.mul_one]) hc (by omega) (by omega) (by rw [Nat.zero_add]; exact hby)
      simp only [List.nil_append, Nat.zero_add] at h1
      rcases h1.2 with ⟨rfl, h⟩ | ⟨g, cap, cur, rfl, hg2, _⟩
      · omega
      · exact ⟨g, cap, w', hr, (Keeps.refl _ _).grown h2 (fun k e => by cases e), own_base h1 (by omega)⟩
    · omega
theorem bytes_news {w : World} {ao : Option Addr} {cap : Nat} {ds : List UInt8} (h : Bytes w (.slice ao ds.length cap) ds) : (∃ a c, Value.slice ao ds.length cap = .slice (some a) (u8s ds).length c ∧ ∀ j u, (u8s ds)[j]? = some u → w.cell? (a.add j) = some u) ∨ (∃ c, Value.slice ao ds.length cap = .slice none 0 c ∧ (u8s ds).length = 0) := by
  rw [u8s_length]
  rcases h with ⟨a, c, e, hc⟩ | ⟨c, e, hb⟩
  · exact .inl ⟨a, c, e, hc⟩
  · subst hb; exact .inr ⟨c, e, rfl⟩
theorem strs_news {w : World} {ao : Option Addr} {cap : Nat} {ss : List ByteArray} (h : Strs w (.slice ao ss.length cap) ss) : (∃ a c, Value.slice ao ss.length cap = .slice (some a) (ss.map Value.string).length c ∧ ∀ j u, (ss.map Value.string)[j]? = some u → w.cell? (a.add j) = some u) ∨ (∃ c, Value.slice ao ss.length cap = .slice none 0 c ∧ (ss.map Value.string).length = 0) := by
  rw [List.length_map]
  rcases h with ⟨a, c, e, hc⟩ | ⟨c, e, hb⟩
  · refine .inl ⟨a, c, e, fun j u hu => ?_⟩
    rw [List.getElem?_map] at hu
    obtain ⟨s, hs, rfl⟩ := Option.map_eq_some_iff.1 hu
    exact hc j s hs
  · subst hb; exact .inr ⟨c, e, rfl⟩

set_option maxRecDepth 100000 in
set_option maxHeartbeats 3200000 in
theorem copyAns_any (c n : Int) (ao no : Option Addr) (cap ncap : Nat) (ds : List UInt8) (ss : List ByteArray) (w : World) (hx : Bytes w (.slice ao ds.length cap) ds) (hs : Strs w (.slice no ss.length ncap) ss) (hl : ds.length ≤ 140737488351232) (hl2 : ss.length ≤ 8796093022207) :
    Calls Try.prog 15 #[ansVal c n (.slice ao ds.length cap) (.slice no ss.length ncap)] w fun e w' => Same w w' ∧ ∃ g1 c1 g2 c2, e = .returned (ansVal c n (.slice (some ⟨g1, 0, none⟩) ds.length c1) (.slice (some ⟨g2, 0, none⟩) ss.length c2)) ∧
      Reads w' (.slice (some ⟨g1, 0, none⟩) ds.length c1) ds ∧ Strs w' (.slice (some ⟨g2, 0, none⟩) ss.length c2) ss := by
  obtain ⟨i0, hi0, hz0, hz1, hz2⟩ := info_parts Try.info5
  obtain ⟨is, his, hq0, hq1, hq2⟩ : ∃ i, Try.prog.info? 9 = some i ∧ i.zero = some (.string ⟨#[]⟩) ∧ i.size = 1 ∧ i.bytes = 16 := info_parts (show (Try.prog.info? 9).map (fun i => (i.zero, i.size, i.bytes)) = some (some (.string ⟨#[]⟩), 1, 16) from by kernel_rfl)
  have hzs := Try.zeroAns
  obtain ⟨w1, hw1⟩ : ∃ w1, (w.alloc (.cells #[.int .i64 c, .int .i64 n, .slice ao ds.length cap, .slice no ss.length ncap] 41)).alloc (.cells ans0.toArray 41) = w1 := ⟨_, rfl⟩
  have hk1 : Same w w1 := by rw [← hw1]; exact ((Keeps.refl _ _).alloc _).alloc _
  have HA : Hid (Whole w1 w.heap.size 41 (ansCells c n (.slice ao ds.length cap) (.slice no ss.length ncap))) := Lib.hid (by
    rw [← hw1]; exact Whole.keep (w := w.alloc _) (S := fun _ => False) (heap_alloc_new w _) ((Keeps.refl _ _).alloc _) (fun e => e))
  have HR : Hid (Whole w1 (w.heap.size + 1) 41 ans0) := Lib.hid (by
    rw [← hw1]
    have := heap_alloc_new (w.alloc (.cells #[.int .i64 c, .int .i64 n, .slice ao ds.length cap, .slice no ss.length ncap] 41)) (.cells ans0.toArray 41)
    simpa [Whole] using this)
  have HB := Lib.hid (hx.same hk1)
  have HS := Lib.hid (hs.same hk1)
  have HK := Lib.hid hk1
  have HW := Lib.hid hw1
  have HIO := Lib.hid Try.sizeAns
  have HRL : w.heap.size + 1 < w1.heap.size := HR.out.lt
  clear hx hs hk1 hw1
  go_enter Try.func15, Try.ntmps15
  go_wp2_with fail
  rw [HW.out]
  have HC := Lib.hid (fun w' (k : Same w1 w') => cell_of_four (show w'.heap[w.heap.size]? = some (.cells #[.int .i64 c, .int .i64 n, .slice ao ds.length cap, .slice no ss.length ncap] 41 (0, 0)) from HA.out.keep k (fun e => e)))
  refine wp_region_tail [[], [0], [], [2], [], [], [5], [4, 6], [], [], [9], [8, 10, 7], [1, 3, 7, 11], [12, 11, 0, 1, 2, 3, 4, 5, 6, 7, 8, 9, 10, 11, 12]]
    [some 3, some 4, some 5, some 6, some 7, some 8, some 9, some 10, some 11, some 12, some 13, some 14, some 15, none]
    [.is (.pointer (some ⟨w.heap.size, 0, none⟩)), .is (.int .i64 c), .is (.pointer (some ⟨w.heap.size, 1, none⟩)), .is (.int .i64 n), .lit 5 #[], .is (.pointer (some ⟨w.heap.size, 2, none⟩)), .is (.slice ao ds.length cap), .own 5 ds,
      .lit 9 #[], .is (.pointer (some ⟨w.heap.size, 3, none⟩)), .is (.slice no ss.length ncap), .ownv 9 (ss.map Value.string)]
    (fun _ => False) [] (fun _ _ => True) 1 _ _ 16 12 14 (by kernel_rfl) (by rfl) (by rfl) (by omega) (by kernel_rfl) (by kernel_rfl) (by decide) (by decide) (fun _ e => e.elim) trivial (fun _ _ _ h _ => h) ?_ ?_
  · refine ⟨?_, ?_, ?_, ?_, ?_, ?_, ?_, ?_, ?_, ?_, ?_, ?_, trivial⟩
    · intro a w' K hk hdep hfr hK
      have f1 := hfr 1 (by decide)
      exact plan_do (by rfl) (plan_yield (i := 0) (V := fun _ _ v => v = (.pointer (some ⟨w.heap.size, 0, none⟩) : Value)) (.pointer (some ⟨w.heap.size, 0, none⟩)) (by go_simp) rfl hK)
    · intro a w' K hk hdep hfr hK
      have e3 : a.tmps[3]?.getD undef = .pointer (some ⟨w.heap.size, 0, none⟩) := hdep 0 (by decide) 3 rfl
      have c0 := (HC.out w' hk).1
      exact plan_do (by rfl) (plan_yield (i := 1) (V := fun _ _ v => v = (.int .i64 c : Value)) (.int .i64 c) (by go_simp) rfl hK)
    · intro a w' K hk hdep hfr hK
      have f1 := hfr 1 (by decide)
      exact plan_do (by rfl) (plan_yield (i := 2) (V := fun _ _ v => v = (.pointer (some ⟨w.heap.size, 1, none⟩) : Value)) (.pointer (some ⟨w.heap.size, 1, none⟩)) (by go_simp) rfl hK)
    · intro a w' K hk hdep hfr hK
      have e5 : a.tmps[5]?.getD undef = .pointer (some ⟨w.heap.size, 1, none⟩) := hdep 2 (by decide) 5 rfl
      have c1 := (HC.out w' hk).2.1
      exact plan_do (by rfl) (plan_yield (i := 3) (V := fun _ _ v => v = (.int .i64 n : Value)) (.int .i64 n) (by go_simp) rfl hK)
    · intro a w' K hk hdep hfr hK
      exact plan_do (by rfl) (plan_go (.slice (some ⟨w'.heap.size, 0, none⟩) 0 0) (w'.alloc (.cells #[] 5)) (by go_simp) (hK _ _ ((Keeps.refl _ _).alloc _) ⟨w'.heap.size, rfl, hk.size, heap_alloc_new w' _⟩))
    · intro a w' K hk hdep hfr hK
      have f1 := hfr 1 (by decide)
      exact plan_do (by rfl) (plan_yield (i := 5) (V := fun _ _ v => v = (.pointer (some ⟨w.heap.size, 2, none⟩) : Value)) (.pointer (some ⟨w.heap.size, 2, none⟩)) (by go_simp) rfl hK)
    · intro a w' K hk hdep hfr hK
      have e8 : a.tmps[8]?.getD undef = .pointer (some ⟨w.heap.size, 2, none⟩) := hdep 5 (by decide) 8 rfl
      have c2 := (HC.out w' hk).2.2.1
      exact plan_do (by rfl) (plan_yield (i := 6) (V := fun _ _ v => v = (.slice ao ds.length cap : Value)) (.slice ao ds.length cap) (by go_simp) rfl hK)
    · intro a w' K hk hdep hfr hK
      obtain ⟨L, e7, hL, hlit⟩ : ∃ L, a.tmps[7]?.getD undef = .slice (some ⟨L, 0, none⟩) 0 0 ∧ w1.heap.size ≤ L ∧ w'.heap[L]? = some (.cells #[] 5 (0, 0)) := hdep 4 (by decide) 7 rfl
      have e9 : a.tmps[9]?.getD undef = .slice ao ds.length cap := hdep 6 (by decide) 9 rfl
      obtain ⟨g', c', w'', h1, h2, h3⟩ := run_append_none (P := Try.prog) w' 23 23 5 i0 (.int .u8 0) 1 Try.underlying23 hi0 hz0 hz1 hz2 rfl w1.heap.size L (u8s ds).length (u8s ds) (.slice ao ds.length cap) hL hlit rfl (bytes_news (HB.out.same hk)) (by rw [u8s_length]; unfold maxLen; omega) (by rw [u8s_length]; omega)
      rw [u8s_length] at h1 h3
      exact step_append_run (by rfl) (.tmp 7) (.tmp 9) 23 (by rfl) (.slice (some ⟨L, 0, none⟩) 0 0) (.slice ao ds.length cap) _ w'' ((eval_tmp _ _).trans e7) ((eval_tmp _ _).trans e9) h1 (hK _ _ h2 ⟨g', c', rfl, h3⟩)
    · intro a w' K hk hdep hfr hK
      exact plan_do (by rfl) (plan_go (.slice (some ⟨w'.heap.size, 0, none⟩) 0 0) (w'.alloc (.cells #[] 9)) (by go_simp) (hK _ _ ((Keeps.refl _ _).alloc _) ⟨w'.heap.size, rfl, hk.size, heap_alloc_new w' _⟩))
    · intro a w' K hk hdep hfr hK
      have f1 := hfr 1 (by decide)
      exact plan_do (by rfl) (plan_yield (i := 9) (V := fun _ _ v => v = (.pointer (some ⟨w.heap.size, 3, none⟩) : Value)) (.pointer (some ⟨w.heap.size, 3, none⟩)) (by go_simp) rfl hK)
    · intro a w' K hk hdep hfr hK
      have e12 : a.tmps[12]?.getD undef = .pointer (some ⟨w.heap.size, 3, none⟩) := hdep 9 (by decide) 12 rfl
      have c3 := (HC.out w' hk).2.2.2
      exact plan_do (by rfl) (plan_yield (i := 10) (V := fun _ _ v => v = (.slice no ss.length ncap : Value)) (.slice no ss.length ncap) (by go_simp) rfl hK)
    · intro a w' K hk hdep hfr hK
      obtain ⟨L, e11, hL, hlit⟩ : ∃ L, a.tmps[11]?.getD undef = .slice (some ⟨L, 0, none⟩) 0 0 ∧ w1.heap.size ≤ L ∧ w'.heap[L]? = some (.cells #[] 9 (0, 0)) := hdep 8 (by decide) 11 rfl
      have e13 : a.tmps[13]?.getD undef = .slice no ss.length ncap := hdep 10 (by decide) 13 rfl
      obtain ⟨g', c', w'', h1, h2, h3⟩ := run_append_none (P := Try.prog) w' 39 39 9 is (.string ⟨#[]⟩) 16 Try.underlying39 his hq0 hq1 hq2 rfl w1.heap.size L (ss.map Value.string).length (ss.map Value.string) (.slice no ss.length ncap) hL hlit rfl (strs_news (HS.out.same hk)) (by rw [List.length_map]; unfold maxLen; omega) (by rw [List.length_map]; omega)
      exact step_append_run (by rfl) (.tmp 11) (.tmp 13) 39 (by rfl) (.slice (some ⟨L, 0, none⟩) 0 0) (.slice no ss.length ncap) _ w'' ((eval_tmp _ _).trans e11) ((eval_tmp _ _).trans e13) h1 (hK _ _ h2 ⟨g', c', rfl, h3⟩)
  intro a w2 hk hdef hsz hv hfr _
  have e4 : a.tmps[4]?.getD undef = .int .i64 c := hv 1 4 (by omega) rfl
  have e6 : a.tmps[6]?.getD undef = .int .i64 n := hv 3 6 (by omega) rfl
  obtain ⟨g1, c1, e10, ho1⟩ : ∃ g cap, a.tmps[10]?.getD undef = .slice (some ⟨g, 0, none⟩) ds.length cap ∧ w2.ownsRow w1.heap.size 5 1 (.slice (some ⟨g, 0, none⟩) ds.length cap) ds.length (u8s ds) := hv 7 10 (by omega) rfl
  obtain ⟨g2, c2, e14, ho2⟩ : ∃ g cap, a.tmps[14]?.getD undef = .slice (some ⟨g, 0, none⟩) (ss.map Value.string).length cap ∧ w2.ownsRow w1.heap.size 9 1 (.slice (some ⟨g, 0, none⟩) (ss.map Value.string).length cap) (ss.map Value.string).length (ss.map Value.string) := hv 11 14 (by omega) rfl
  rw [List.length_map] at e14 ho2
  have he := act_eq a _ [some 3, some 4, some 5, some 6, some 7, some 8, some 9, some 10, some 11, some 12, some 13, some 14, some 15, none] 16 rfl hsz hdef hfr (fun d => a.tmps[d]?.getD undef) (fun _ _ => rfl)
  obtain ⟨v3, h3⟩ : ∃ v, a.tmps[3]?.getD undef = v := ⟨_, rfl⟩
  obtain ⟨v5, h5⟩ : ∃ v, a.tmps[5]?.getD undef = v := ⟨_, rfl⟩
  obtain ⟨v7, h7⟩ : ∃ v, a.tmps[7]?.getD undef = v := ⟨_, rfl⟩
  obtain ⟨v8, h8⟩ : ∃ v, a.tmps[8]?.getD undef = v := ⟨_, rfl⟩
  obtain ⟨v9, h9⟩ : ∃ v, a.tmps[9]?.getD undef = v := ⟨_, rfl⟩
  obtain ⟨v11, h11⟩ : ∃ v, a.tmps[11]?.getD undef = v := ⟨_, rfl⟩
  obtain ⟨v12, h12⟩ : ∃ v, a.tmps[12]?.getD undef = v := ⟨_, rfl⟩
  obtain ⟨v13, h13⟩ : ∃ v, a.tmps[13]?.getD undef = v := ⟨_, rfl⟩
  obtain ⟨v15, h15⟩ : ∃ v, a.tmps[15]?.getD undef = v := ⟨_, rfl⟩
  simp only [putAll, h3, e4, h5, e6, h7, h8, h9, e10, h11, h12, h13, e14, h15, List.setIfInBounds_toArray, List.set_cons_zero, List.set_cons_succ] at he
  have HR2 := Lib.hid (HR.out.keep hk (fun e => e))
  have kset : Keeps (fun q => q = w.heap.size + 1) w2 (w2.setRow (w.heap.size + 1) (ansCells c n (.slice (some ⟨g1, 0, none⟩) ds.length c1) (.slice (some ⟨g2, 0, none⟩) ss.length c2)).toArray) := (Keeps.refl _ _).setRow _ _ (.inr rfl)
  have HEND : Hid (Same w (w2.setRow (w.heap.size + 1) (ansCells c n (.slice (some ⟨g1, 0, none⟩) ds.length c1) (.slice (some ⟨g2, 0, none⟩) ss.length c2)).toArray) ∧ Whole (w2.setRow (w.heap.size + 1) (ansCells c n (.slice (some ⟨g1, 0, none⟩) ds.length c1) (.slice (some ⟨g2, 0, none⟩) ss.length c2)).toArray) (w.heap.size + 1) 41 (ansCells c n (.slice (some ⟨g1, 0, none⟩) ds.length c1) (.slice (some ⟨g2, 0, none⟩) ss.length c2)) ∧
      Reads (w2.setRow (w.heap.size + 1) (ansCells c n (.slice (some ⟨g1, 0, none⟩) ds.length c1) (.slice (some ⟨g2, 0, none⟩) ss.length c2)).toArray) (.slice (some ⟨g1, 0, none⟩) ds.length c1) ds ∧
      Strs (w2.setRow (w.heap.size + 1) (ansCells c n (.slice (some ⟨g1, 0, none⟩) ds.length c1) (.slice (some ⟨g2, 0, none⟩) ss.length c2)).toArray) (.slice (some ⟨g2, 0, none⟩) ss.length c2) ss) := Lib.hid
    ⟨(HK.out.trans hk (fun _ _ e => e)).trans kset (fun q hq e => by omega), HR2.out.row, Reads.of_own (own_keeps kset ho1 (fun q e hs => by have := (ho1.lt q e).1; omega)) rfl, Strs.of_own (own_keeps kset ho2 (fun q e hs => by have := (ho2.lt q e).1; omega))⟩
  clear h3 e4 h5 e6 h7 h8 h9 e10 h11 h12 h13 e14 h15 hdef hsz hv hfr hk kset ho1 ho2 HR HB HS HC HA hzs
  subst he
  go_wp2_with (first
    | (refine wpList_store_row (by rfl) 41 _ _ (by rfl) (w.heap.size + 1) (ansCells c n (.slice (some ⟨g1, 0, none⟩) ds.length c1) (.slice (some ⟨g2, 0, none⟩) ss.length c2)).toArray (by rfl) (by rfl) 41 ans0.toArray HR2.out HIO.out rfl (ans_all _ _ _ _ _ _ _ _) ?_))
  refine bodyPost_ret (results_cell_row rfl _ _ (w.heap.size + 1) 41 _ (0, 0) _ (by rfl) HEND.out.2.1 Try.underlying41 rfl HIO.out) rfl
    ⟨HEND.out.1, g1, c1, g2, c2, rfl, HEND.out.2.2.1, HEND.out.2.2.2⟩
end Go.Proofs.Ytickphkeeflbbaa
