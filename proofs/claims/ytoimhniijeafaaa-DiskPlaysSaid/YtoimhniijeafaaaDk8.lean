/- What (*disk.Disk).Read reads. -/
import Derived.Test.YtoimhniijeafaaaDk7
namespace Go.Proofs.Ytoimhniijeafaaa
open Go.RowKit Go.Shelf
attribute [local go_sem] Oper.semAt_some
set_option linter.unusedVariables false

theorem clone_at (b o n c : Nat) (bs : List UInt8) (w : World) (hn : bs.length = n) (hx : w.rangeAt b o (u8s bs)) (hl : n ≤ 140737488351232) :
    Calls Try.prog 34 #[.slice (some ⟨b, o, none⟩) n c] w fun e w' => ∃ v, e = .returned v ∧ w'.ownsRow w.heap.size 5 1 v n (u8s bs) ∧ Same w w' := by
  subst hn
  exact (clone_some ⟨b, o, none⟩ c bs w (.inl ⟨_, c, rfl, fun j u hu => by rw [Addr.add_mid]; exact hx j u hu⟩) hl).mono fun e w' ⟨v, h1, h2, h3, _⟩ => ⟨v, h1, h2, h3⟩

theorem own_block_eq {g n c k : Nat} (e : (Value.slice (some ⟨g, 0, none⟩) n c).ownBlock = some k) : k = g := by cases e; rfl
theorem results_two {fn : Func} {P : Program} {p u : Tmp} {t1 t2 : TypeId} (h : fn.results = #[.cell p t1, .cell u t2]) (tmps : Array Value) (w : World) (a1 a2 : Addr) (v1 v2 : Value) (hp : tmps.getD p undef = .pointer (some a1)) (hu : tmps.getD u undef = .pointer (some a2))
    (h1 : (loadVar t1 a1).run P w = .ok v1 w) (h2 : (loadVar t2 a2).run P w = .ok v2 w) : (results fn tmps).run P w = .ok (.tuple #[v1, v2]) w := by
  rw [Array.getD_eq_getD_getElem?] at hp hu
  simp [results, h, hp, hu, asAddr, h1, h2]

set_option maxRecDepth 100000 in
set_option maxHeartbeats 6400000 in
theorem read_in (w : World) (D : Nat) (lv ov : Value) (s : DSt) (m : Nat) (h : DiskAt w D lv ov s) (hdn : s.down = false) (hm : m < s.L.length) (hO : s.O.length ≤ 100000) :
    Calls Try.prog 24 #[.pointer (some ⟨D, 0, none⟩), .int .i64 (m : Nat)] w fun e w' => ∃ v, e = .returned (.tuple #[v, .int .i64 0]) ∧ w'.ownsRow w.heap.size 5 1 v 512 (u8s (seenAt s.L s.O m)) ∧ Same w w' := by
  have hr : (if s.down = true then (3 : Int) else if (0 : Int) ≤ (m : Int) ∧ (m : Int) < (s.L.length : Int) then 0 else 2) = 0 := by rw [hdn, if_neg (by simp), if_pos (by omega)]
  have HR1 := Lib.hid hr
  obtain ⟨oo, oc, rfl, hoc, hof⟩ := h.opn.form
  obtain ⟨go, hgo⟩ : ∃ go, 0 < s.O.length → oo = some ⟨go, 0, none⟩ := by
    by_cases hp : 0 < s.O.length
    · obtain ⟨go, _, e, _⟩ := h.opn.at (fun x hx => by rw [wcells_length, (h.wr x hx).1]) 0 hp
      simp only [Value.slice.injEq] at e
      exact ⟨go, fun _ => e.1⟩
    · exact ⟨0, fun h => absurd h hp⟩
  have H := Lib.hid h
  have HGO := Lib.hid hgo
  clear h hr hof hgo
  refine (callsIn_wide (n := 5)).1 (callsIn_of_wp_marks Try.func24 rfl trivial (wpIn_wide.2 ?_) rfl)
  simp only [Try.ntmps24, List.size_toArray, List.length_cons, List.length_nil, Nat.reduceAdd, Nat.reduceSub, Array.replicate_succ, Array.replicate_zero, List.push_toArray, List.append_toArray, List.nil_append, List.cons_append]
  go_wp2_with fail
  obtain ⟨w3, hw3⟩ : ∃ w3, ((w.alloc (.cells #[.int .i64 (m : Nat)] 3)).alloc (.cells #[.slice none 0 0] 31)).alloc (.cells #[.int .i64 0] 26) = w3 := ⟨_, rfl⟩
  rw [hw3]
  have hsz : w3.heap.size = w.heap.size + 3 := by rw [← hw3]; simp
  have hk3 : Same w w3 := by rw [← hw3]; exact (((Keeps.refl _ _).alloc _).alloc _).alloc _
  have ha : Whole w3 w.heap.size 3 [.int .i64 (m : Nat)] := by
    rw [← hw3]; exact ((Keeps.refl (fun _ => False) _).alloc _ |>.alloc _).obj (heap_alloc_new w _) (fun e => e)
  have hb : Whole w3 (w.heap.size + 1) 31 [.slice none 0 0] := by
    rw [← hw3]
    have := heap_alloc_new (w.alloc (.cells #[.int .i64 (m : Nat)] 3)) (.cells #[.slice none 0 0] 31)
    exact ((Keeps.refl (fun _ => False) _).alloc _).obj (by simpa using this) (fun e => e)
  have hc : Whole w3 (w.heap.size + 2) 26 [.int .i64 0] := by
    rw [← hw3]
    have := heap_alloc_new ((w.alloc (.cells #[.int .i64 (m : Nat)] 3)).alloc (.cells #[.slice none 0 0] 31)) (.cells #[.int .i64 0] 26)
    simpa [Whole] using this
  have HD3 := Lib.hid (H.out.same hk3)
  have HK3 := Lib.hid hk3
  have HA := Lib.hid ha
  have HB := Lib.hid hb
  have HC := Lib.hid hc
  clear hw3 hk3 ha hb hc
  refine (reach_ok _ D lv _ s m HD3.out).mono ?_
  rintro e w4 ⟨he, rfl⟩
  rw [HR1.out] at he
  subst he
  go_wp2_with fail
  have hsz4 : w4.heap.size = w.heap.size + 3 := hsz
  have HIX := Lib.hid (show ∀ q, Same w4 q → Whole q w.heap.size 3 [.int .i64 (m : Nat)] ∧ Whole q (w.heap.size + 1) 31 [.slice none 0 0] ∧ Whole q (w.heap.size + 2) 26 [.int .i64 0] ∧ DiskAt q D lv (.slice oo s.O.length oc) s ∧ Same w q from
    fun q k => ⟨HA.out.keep k (fun e => e), HB.out.keep k (fun e => e), HC.out.keep k (fun e => e), HD3.out.same k, HK3.out.trans k (fun _ _ e => e)⟩)
  clear HA HB HC HD3 HK3 HR1 H hsz
  refine wp_range_back D s.O.length oc oo go (by rfl) (by rfl) (fun W k => (HIX.out W k).2.2.2.1.cells.2.1) HGO.out hO
    (fun k => k = w.heap.size + 1 ∨ k = w.heap.size + 2) (fun k e => by omega)
    (fun j => ∀ q, j ≤ q → ∀ (hq : q < s.O.length), s.O[q].1 ≠ m)
    (fun W => Same w W ∧ ∃ v, Whole W (w.heap.size + 1) 31 [v] ∧ Whole W (w.heap.size + 2) 26 [.int .i64 0] ∧ W.ownsRow (w.heap.size + 5) 5 1 v 512 (u8s (seenAt s.L s.O m)))
    (fun W W' ⟨h1, v, h2, h3, h4⟩ k => ⟨h1.trans k (fun q hq e => by omega), v, h2.keep k (by omega), h3.keep k (by omega), own_keeps k h4 (fun q e e2 => by have := (h4.lt q e).1; omega)⟩)
    (fun q hq hq2 => by omega)
    (fun j => { tmps := #[.pointer (some ⟨D, 0, none⟩), .int .i64 (m : Nat), undef, .pointer (some ⟨w.heap.size, 0, none⟩), .pointer (some ⟨w.heap.size + 1, 0, none⟩), .pointer (some ⟨w.heap.size + 1 + 1, 0, none⟩), .int .i64 0, Value.pointer (some ⟨go, j * 513, none⟩), .pointer (some ⟨D, 0, none⟩), .int .i64 (m : Nat), .int .i64 0, .int .i64 0, .bool false, undef, .pointer (some ⟨D, 0, none⟩), .func (.func 33) #[.pointer (some ⟨D, 0, none⟩)] #[], Value.pointer (some ⟨go, j * 513, none⟩), undef, undef, undef, undef, undef, undef, undef, undef, undef, undef, undef, undef, undef, undef, undef, undef, undef, undef, undef], defers := [] }) ?assign ?body ?done ?stop
  case assign =>
    intro j l W K hK
    gi_wp2
    exact hK
  case body =>
    intro j l W hj hi hs hsz
    obtain ⟨ha, hb, hc, hd, hk⟩ := HIX.out W hs
    obtain ⟨go', c', e, hra⟩ := hd.opn.at (fun x hx => by rw [wcells_length, (hd.wr x hx).1]) j hj
    simp only [Value.slice.injEq] at e
    have e2 := HGO.out (by omega)
    rw [e.1] at e2
    simp only [Option.some.injEq, Addr.mk.injEq, and_true] at e2
    obtain rfl : go' = go := e2
    clear e
    have hat := hd.wr _ (List.getElem_mem hj)
    have ca := ha.cell (i := 0) rfl
    have cw : W.cell? ⟨go', j * 513, none⟩ = some (.int .i64 (s.O[j].1 : Nat)) := by have := hra 0 _ rfl; simpa using this
    have HRA : Hid (∀ W', Same W W' → W'.rangeAt go' (j * 513 + 1) (u8s s.O[j].2)) := Lib.hid (fun W' k => by
      refine rangeAt_keep ?_ k (fun _ e => e)
      intro q u hu
      rw [show j * 513 + 1 + q = j * 513 + (q + 1) from by omega]
      exact hra (q + 1) u (by simpa [wcells] using hu))
    have HCL : Hid (∀ W', Same W W' → Calls Try.prog 34 #[.slice (some ⟨go', j * 513 + 1, none⟩) 512 512] W' fun e w' => ∃ v, e = .returned v ∧ w'.ownsRow W'.heap.size 5 1 v 512 (u8s s.O[j].2) ∧ Same W' w') := Lib.hid (fun W' k => clone_at go' (j * 513 + 1) 512 512 s.O[j].2 W' hat.1 (HRA.out W' k) (by omega))
    have HBC := Lib.hid (show Whole W (w.heap.size + 1) 31 [.slice none 0 0] ∧ Whole W (w.heap.size + 2) 26 [.int .i64 0] from ⟨hb, hc⟩)
    have HSW := Lib.hid hk
    clear hra hd hb hc hk hs
    by_cases he : s.O[j].1 = m
    · rw [he] at cw
      have HSN := Lib.hid (seen_last (L := s.L) hj he (fun q hq hq2 => hi q (by omega) hq2))
      clear hi
      gi_wp2
      gi_region
      all_goals gi_wp2_with fail
      all_goals (
        refine ⟨trivial, (CallsIn.inRound l (callsIn_wide.2 (HCL.out _ ((Keeps.refl _ _).drew)))).mono ?_⟩
        rintro e w5 ⟨v, rfl, ho, hk5⟩
        have k5 : Same W w5 := ((Keeps.refl _ _).drew).trans hk5 (fun _ _ e => e)
        obtain ⟨g, cp, rfl⟩ : ∃ g c, v = .slice (some ⟨g, 0, none⟩) 512 c := by
          rcases ho.2 with ⟨_, e⟩ | ⟨g, cp, cur, e, _⟩
          · omega
          · exact ⟨g, cp, e⟩
        have hgl : W.heap.size ≤ g := (ho.lt g rfl).1
        have hb5 : Whole w5 (w.heap.size + 1) 31 [.slice none 0 0] := HBC.out.1.keep k5 (fun e => e)
        have hc5 : Whole w5 (w.heap.size + 1 + 1) 26 [.int .i64 0] := HBC.out.2.keep k5 (fun e => e)
        have f4 := hb5.cell (i := 0) rfl
        have z4 := hb5.free 0
        have hc6 := hc5.far ⟨w.heap.size + 1, 0, none⟩ (by simp only; omega) (.slice (some ⟨g, 0, none⟩) 512 cp)
        have f5 := hc6.cell (i := 0) rfl
        have z5 := hc6.free 0
        have kk : Keeps (fun k => k = w.heap.size + 1 ∨ k = w.heap.size + 2) W ((w5.setCell ⟨w.heap.size + 1, 0, none⟩ (.slice (some ⟨g, 0, none⟩) 512 cp)).setCell ⟨w.heap.size + 1 + 1, 0, none⟩ (.int .i64 0)) := ((Same.any k5).setCell _ _ (.inr (.inl rfl))).setCell _ _ (.inr (.inr rfl))
        have HEND := Lib.hid (show Keeps (fun k => k = w.heap.size + 1 ∨ k = w.heap.size + 2) W ((w5.setCell ⟨w.heap.size + 1, 0, none⟩ (.slice (some ⟨g, 0, none⟩) 512 cp)).setCell ⟨w.heap.size + 1 + 1, 0, none⟩ (.int .i64 0)) ∧ Same w ((w5.setCell ⟨w.heap.size + 1, 0, none⟩ (.slice (some ⟨g, 0, none⟩) 512 cp)).setCell ⟨w.heap.size + 1 + 1, 0, none⟩ (.int .i64 0)) ∧ ∃ v, Whole ((w5.setCell ⟨w.heap.size + 1, 0, none⟩ (.slice (some ⟨g, 0, none⟩) 512 cp)).setCell ⟨w.heap.size + 1 + 1, 0, none⟩ (.int .i64 0)) (w.heap.size + 1) 31 [v] ∧ Whole ((w5.setCell ⟨w.heap.size + 1, 0, none⟩ (.slice (some ⟨g, 0, none⟩) 512 cp)).setCell ⟨w.heap.size + 1 + 1, 0, none⟩ (.int .i64 0)) (w.heap.size + 2) 26 [.int .i64 0] ∧ ((w5.setCell ⟨w.heap.size + 1, 0, none⟩ (.slice (some ⟨g, 0, none⟩) 512 cp)).setCell ⟨w.heap.size + 1 + 1, 0, none⟩ (.int .i64 0)).ownsRow (w.heap.size + 5) 5 1 v 512 (u8s (seenAt s.L s.O m)) from
          ⟨kk, HSW.out.trans kk (fun q hq e => by omega), _, (hb5.set 0 _).far _ (by simp only; omega) _, hc6.set 0 _, by
            rw [HSN.out]
            refine own_keeps (S := fun k => k = w.heap.size + 1 ∨ k = w.heap.size + 2) (((Keeps.refl _ _).setCell _ _ (.inr (.inl rfl))).setCell _ _ (.inr (.inr rfl))) (own_base ho (by show w.heap.size + 5 ≤ W.heap.size; omega)) (fun k e => by have := own_block_eq e; omega)⟩)
        clear kk hb5 hc5 hc6 ho hk5 k5
        gi_wp2
        exact HEND.out)
    · have cw2 : ((s.O[j].1 : Int) == (m : Int)) = false := by simp; omega
      have HN : Hid (∀ q, j ≤ q → ∀ (hq : q < s.O.length), s.O[q].1 ≠ m) := Lib.hid (fun q hq hq2 => by
        by_cases e : q = j
        · subst e; exact he
        · exact hi q (by omega) hq2)
      clear hi
      gi_wp2
      gi_region
      all_goals gi_wp2
      all_goals exact ⟨(Keeps.refl _ _).drew, HN.out⟩
  case done =>
    intro W hi hs hd
    obtain ⟨ha, hb, hc, hdk, hk⟩ := HIX.out W hs
    have hlm : s.L[m].length = 512 := hdk.sec _ (List.getElem_mem hm)
    have HSN : Hid (seenAt s.L s.O m = s.L[m]) := Lib.hid (by
      rw [seen_none (fun q hq => hi q (Nat.zero_le _) hq), List.getD_eq_getElem?_getD, List.getElem?_eq_getElem hm]; rfl)
    obtain ⟨gl, cl, rfl, hra⟩ := hdk.las.at (fun x hx => by rw [u8s_length]; exact hdk.sec x hx) m hm
    have HST := Lib.hid (show ∀ q, Same W q → Whole q w.heap.size 3 [.int .i64 (m : Nat)] ∧ Whole q (w.heap.size + 1) 31 [.slice none 0 0] ∧ Whole q (w.heap.size + 1 + 1) 26 [.int .i64 0] ∧ q.cell? ⟨D, 0, none⟩ = some (.slice (some ⟨gl, 0, none⟩) s.L.length cl) ∧ q.rangeAt gl (m * 512) (u8s s.L[m]) ∧ Same w q ∧ q.heap[w.heap.size + 3]? = some (.deferred (some [])) from
      fun q k => ⟨ha.keep k (fun e => e), hb.keep k (fun e => e), hc.keep k (fun e => e), (hdk.same k).cells.1, rangeAt_keep hra k (fun _ e => e), hk.trans k (fun _ _ e => e), k.obj (by rw [← hsz4]; exact hd) (fun e => e)⟩)
    have q1 : (m : Int) < (s.L.length : Int) := by omega
    have hszW : w.heap.size + 4 ≤ W.heap.size := by have := lt_of_block hd; omega
    clear ha hb hc hdk hk hra hd hs hi HIX
    go_wp2
    refine wp_region_tail [[], [0], [1], [2], [], [3, 4], [5], [6], [7, 7, 0, 1, 2, 3, 4, 5, 6, 7], [8, 0, 1, 2, 3, 4, 5, 6, 7, 8]]
      [some 28, some 29, some 30, some 31, some 32, some 33, some 34, some 35, none, none]
      [.is (.pointer (some ⟨D, 0, none⟩)), .is (.pointer (some ⟨D, 0, none⟩)), .is (.pointer (some ⟨D, 0, none⟩)), .is (.slice (some ⟨gl, 0, none⟩) s.L.length cl), .is (.int .i64 (m : Nat)), .is (.pointer (some ⟨gl, m * 512, none⟩)), .is (.slice (some ⟨gl, m * 512, none⟩) 512 512), .own 5 s.L[m]]
      (fun _ => False) [] (fun _ _ => True) 8 _ _ 36 8 10 (by kernel_rfl) (by rfl) (by rfl) (by omega) (by kernel_rfl) (by kernel_rfl) (by decide) (by decide) (fun _ e => e.elim) trivial (fun _ _ _ h _ => h) ?_ ?_
    · refine ⟨?_, ?_, ?_, ?_, ?_, ?_, ?_, ?_, trivial⟩
      · intro a w' K hk hdep hfr hK
        have f := hfr 0 (by decide)
        exact plan_do (by rfl) (plan_yield (i := 0) (V := fun _ _ v => v = (.pointer (some ⟨D, 0, none⟩) : Value)) (.pointer (some ⟨D, 0, none⟩)) (by go_simp) rfl hK)
      · intro a w' K hk hdep hfr hK
        have e28 : a.tmps[28]?.getD undef = .pointer (some ⟨D, 0, none⟩) := hdep 0 (by decide) 28 rfl
        exact plan_do (by rfl) (plan_yield (i := 1) (V := fun _ _ v => v = (.pointer (some ⟨D, 0, none⟩) : Value)) (.pointer (some ⟨D, 0, none⟩)) (by go_simp) rfl hK)
      · intro a w' K hk hdep hfr hK
        have e29 : a.tmps[29]?.getD undef = .pointer (some ⟨D, 0, none⟩) := hdep 1 (by decide) 29 rfl
        exact plan_do (by rfl) (plan_yield (i := 2) (V := fun _ _ v => v = (.pointer (some ⟨D, 0, none⟩) : Value)) (.pointer (some ⟨D, 0, none⟩)) (by go_simp) rfl hK)
      · intro a w' K hk hdep hfr hK
        have e30 : a.tmps[30]?.getD undef = .pointer (some ⟨D, 0, none⟩) := hdep 2 (by decide) 30 rfl
        have c0 := (HST.out w' hk).2.2.2.1
        exact plan_do (by rfl) (plan_yield (i := 3) (V := fun _ _ v => v = (.slice (some ⟨gl, 0, none⟩) s.L.length cl : Value)) (.slice (some ⟨gl, 0, none⟩) s.L.length cl) (by go_simp) rfl hK)
      · intro a w' K hk hdep hfr hK
        have f := hfr 3 (by decide)
        have ca := (HST.out w' hk).1.cell (i := 0) rfl
        exact plan_do (by rfl) (plan_yield (i := 4) (V := fun _ _ v => v = (.int .i64 (m : Nat) : Value)) (.int .i64 (m : Nat)) (by go_simp) rfl hK)
      · intro a w' K hk hdep hfr hK
        have e31 : a.tmps[31]?.getD undef = .slice (some ⟨gl, 0, none⟩) s.L.length cl := hdep 3 (by decide) 31 rfl
        have e32 : a.tmps[32]?.getD undef = .int .i64 (m : Nat) := hdep 4 (by decide) 32 rfl
        exact plan_do (by rfl) (plan_yield (i := 5) (V := fun _ _ v => v = (.pointer (some ⟨gl, m * 512, none⟩) : Value)) (.pointer (some ⟨gl, m * 512, none⟩)) (by go_simp) rfl hK)
      · intro a w' K hk hdep hfr hK
        have e33 : a.tmps[33]?.getD undef = .pointer (some ⟨gl, m * 512, none⟩) := hdep 5 (by decide) 33 rfl
        exact plan_do (by rfl) (plan_yield (i := 6) (V := fun _ _ v => v = (.slice (some ⟨gl, m * 512, none⟩) 512 512 : Value)) (.slice (some ⟨gl, m * 512, none⟩) 512 512) (by go_simp) rfl hK)
      · intro a w' K hk hdep hfr hK
        have e34 : a.tmps[34]?.getD undef = .slice (some ⟨gl, m * 512, none⟩) 512 512 := hdep 6 (by decide) 34 rfl
        refine plan_do (by rfl) (plan_call 34 #[.slice (some ⟨gl, m * 512, none⟩) 512 512] (by go_simp) ?_)
        refine (clone_at gl (m * 512) 512 512 s.L[m] w' hlm (HST.out w' hk).2.2.2.2.1 (by omega)).mono fun e w'' ⟨v, he, ho, hk2⟩ => ⟨v, he, hK _ _ hk2 ?_⟩
        rcases ho.2 with ⟨_, e⟩ | ⟨g, cp, cur, e, _⟩
        · omega
        · exact ⟨g, cp, by rw [hlm]; exact e, by rw [hlm, ← e]; exact own_base ho hk.size⟩
    intro a w2 hk hdef hsz hv hfr _
    obtain ⟨g, cp, e35, ho⟩ : ∃ g cap, a.tmps[35]?.getD undef = .slice (some ⟨g, 0, none⟩) s.L[m].length cap ∧ w2.ownsRow W.heap.size 5 1 (.slice (some ⟨g, 0, none⟩) s.L[m].length cap) s.L[m].length (u8s s.L[m]) := hv 7 35 (by omega) rfl
    rw [hlm] at e35 ho
    have he := act_eq a _ [some 28, some 29, some 30, some 31, some 32, some 33, some 34, some 35, none, none] 36 rfl hsz hdef hfr (fun d => a.tmps[d]?.getD undef) (fun _ _ => rfl)
    obtain ⟨v28, h28⟩ : ∃ v, a.tmps[28]?.getD undef = v := ⟨_, rfl⟩
    obtain ⟨v29, h29⟩ : ∃ v, a.tmps[29]?.getD undef = v := ⟨_, rfl⟩
    obtain ⟨v30, h30⟩ : ∃ v, a.tmps[30]?.getD undef = v := ⟨_, rfl⟩
    obtain ⟨v31, h31⟩ : ∃ v, a.tmps[31]?.getD undef = v := ⟨_, rfl⟩
    obtain ⟨v32, h32⟩ : ∃ v, a.tmps[32]?.getD undef = v := ⟨_, rfl⟩
    obtain ⟨v33, h33⟩ : ∃ v, a.tmps[33]?.getD undef = v := ⟨_, rfl⟩
    obtain ⟨v34, h34⟩ : ∃ v, a.tmps[34]?.getD undef = v := ⟨_, rfl⟩
    simp only [putAll, h28, h29, h30, h31, h32, h33, h34, e35, List.setIfInBounds_toArray, List.set_cons_zero, List.set_cons_succ] at he
    clear h28 h29 h30 h31 h32 h33 h34 e35 hdef hsz hv hfr
    subst he
    obtain ⟨ha2, hb2, hc2, _, _, hk2, hd2⟩ := HST.out w2 hk
    have hgl2 : W.heap.size ≤ g := (ho.lt g rfl).1
    have f4 := hb2.cell (i := 0) rfl
    have z4 := hb2.free 0
    have hc3 := hc2.far ⟨w.heap.size + 1, 0, none⟩ (by simp only; omega) (.slice (some ⟨g, 0, none⟩) 512 cp)
    have f5 := hc3.cell (i := 0) rfl
    have z5 := hc3.free 0
    obtain ⟨w5, hw5⟩ : ∃ w5, (w2.setCell ⟨w.heap.size + 1, 0, none⟩ (.slice (some ⟨g, 0, none⟩) 512 cp)).setCell ⟨w.heap.size + 1 + 1, 0, none⟩ (.int .i64 0) = w5 := ⟨_, rfl⟩
    have kk : Keeps (fun k => k = w.heap.size + 1 ∨ k = w.heap.size + 2) w2 w5 := by rw [← hw5]; exact ((Keeps.refl _ _).setCell _ _ (.inr (.inl rfl))).setCell _ _ (.inr (.inr rfl))
    have HR5 : Hid (Whole w5 (w.heap.size + 1) 31 [.slice (some ⟨g, 0, none⟩) 512 cp] ∧ Whole w5 (w.heap.size + 1 + 1) 26 [.int .i64 0] ∧ w5.ownsRow w.heap.size 5 1 (.slice (some ⟨g, 0, none⟩) 512 cp) 512 (u8s (seenAt s.L s.O m)) ∧ Same w w5 ∧ w5.heap[w.heap.size + 3]? = some (.deferred (some []))) := Lib.hid
      ⟨by rw [← hw5]; exact (hb2.set 0 _).far _ (by simp only; omega) _, by rw [← hw5]; exact hc3.set 0 _, by rw [HSN.out]; exact own_keeps kk (own_base ho (by omega)) (fun k e => by have := own_block_eq e; omega), hk2.trans kk (fun q hq e => by omega), kk.obj hd2 (by omega)⟩
    have HW5 := Lib.hid hw5
    clear kk hw5 ha2 hb2 hc2 hk2 hd2 hc3 ho hk HST HSN
    go_wp2
    rw [HW5.out]
    refine ⟨by simp, .inl ⟨_, _, rfl, run_takeDeferred HR5.out.2.2.2.2, ?_⟩⟩
    have kt := turn_keeps w5 (w.heap.size + 3) (.deferred none)
    obtain ⟨hr1, hr2, hr3, hr4, _⟩ := HR5.out
    have hr1' := (hr1.keep kt (by omega)).cell (i := 0) rfl
    have hr2' := (hr2.keep kt (by omega)).cell (i := 0) rfl
    refine ⟨_, results_two rfl _ _ ⟨w.heap.size + 1, 0, none⟩ ⟨w.heap.size + 1 + 1, 0, none⟩ (.slice (some ⟨g, 0, none⟩) 512 cp) (.int .i64 0) (by rfl) (by rfl) (by clear hr1 hr2 hr3 hr4 kt; go_simp) (by clear hr1 hr2 hr3 hr4 kt; go_simp), ⟨_, rfl, own_keeps kt hr3 (fun k e => by have := own_block_eq e; omega), hr4.trans kt (fun q hq e => by omega)⟩⟩
  case stop =>
    rintro W ⟨hk, v, h2, h3, h4⟩ hd
    rw [hsz4] at hd ⊢
    have h3' : Whole W (w.heap.size + 1 + 1) 26 [.int .i64 0] := h3
    have kt := turn_keeps W (w.heap.size + 3) (.deferred none)
    have hr1' := (h2.keep kt (by omega)).cell (i := 0) rfl
    have hr2' := (h3'.keep kt (by omega)).cell (i := 0) rfl
    have HEND := Lib.hid (show (W.putObj (w.heap.size + 3) (.deferred none)).ownsRow w.heap.size 5 1 v 512 (u8s (seenAt s.L s.O m)) ∧ Same w (W.putObj (w.heap.size + 3) (.deferred none)) from
      ⟨own_keeps kt (own_base h4 (by omega)) (fun k e => by have := (h4.lt k e).1; omega), hk.trans kt (fun q hq e => by omega)⟩)
    have HDD := Lib.hid hd
    clear hd h2 h3 h3' h4 hk kt HIX HGO
    go_wp2
    refine ⟨by simp, .inl ⟨_, _, rfl, run_takeDeferred HDD.out, ?_⟩⟩
    exact ⟨_, results_two rfl _ _ ⟨w.heap.size + 1, 0, none⟩ ⟨w.heap.size + 1 + 1, 0, none⟩ v (.int .i64 0) (by rfl) (by rfl) (by go_simp) (by go_simp), ⟨_, rfl, HEND.out.1, HEND.out.2⟩⟩
end Go.Proofs.Ytoimhniijeafaaa
