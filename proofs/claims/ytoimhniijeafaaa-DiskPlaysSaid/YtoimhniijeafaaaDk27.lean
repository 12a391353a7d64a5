/- The document's disk grows; the document's New. -/
import Derived.Test.YtoimhniijeafaaaDk26
namespace Go.Proofs.Ytoimhniijeafaaa
open Go.RowKit
set_option linter.unusedVariables false

theorem Try.infoSl : (Try.prog.info? 31).map (fun i => (i.zero, i.size, i.bytes)) = some (some (.slice none 0 0), 1, 24) := by kernel_rfl
theorem lies46 (wr : World) (vi : Value) (n : Nat) (xs : List Value) (h : wr.ownsRow 0 31 1 vi n xs) (v : Value) (lit : Nat) (hlit : wr.cell? ⟨lit, 0, none⟩ = some v) (hv1 : v.oneCell' = true) (hlen : n ≤ 100000) :
    ∃ g cap w2, (Builtin.append_ #[46, 46] 46 #[vi, .slice (some ⟨lit, 0, none⟩) 1 1]).run Try.prog wr = .ok (.slice (some ⟨g, 0, none⟩) (n + 1) cap) w2 ∧
      w2.ownsRow 0 31 1 (.slice (some ⟨g, 0, none⟩) (n + 1) cap) (n + 1) (xs ++ [v]) ∧ Keeps (fun q => vi.ownBlock = some q) wr w2 ∧ (vi.ownBlock = some g ∨ g = wr.heap.size) := by
  obtain ⟨il, hil, hl0, hl1, hl2⟩ := info_parts Try.infoSl
  obtain ⟨g, cp, w2, hrun, ho, hg, hat, _⟩ := run_append_lies (P := Try.prog) wr 46 46 0 31 il (.slice none 0 0) 1 24 Try.underlying46 hil hl0 hl1 hl2 (by rfl) (by omega) vi n xs h ⟨lit, 0, none⟩ 1 1 [v] (by rfl)
    (fun j u hu => by
      cases j with
      | zero => simp at hu; subst hu; exact hlit
      | succ j => simp at hu) (by simp [hv1]) (by omega) (by simp only [maxLen]; omega) (by omega) (Nat.zero_le _) wr.heap.size rfl
  exact ⟨g, cp, w2, hrun, ho, (Keeps.refl _ _).grown hg (fun k e _ => e), hat⟩
def RLitP (B : List UInt8) (lo : Nat) (w : World) (v : Value) : Prop := ∃ G g cap, v = .slice (some ⟨G, 0, none⟩) 1 1 ∧ lo ≤ G ∧ w.heap[G]? = some (.cells #[.slice (some ⟨g, 0, none⟩) 512 cap] 31 (0, 0)) ∧ w.ownsRow lo 5 1 (.slice (some ⟨g, 0, none⟩) 512 cap) 512 (u8s B)
theorem RLitP.keep {B : List UInt8} (Sx : Nat → Prop) (lo : Nat) (w w' : World) (v : Value) (hlo : ∀ k, Sx k → k < lo) (h : RLitP B lo w v) (k : Keeps Sx w w') : RLitP B lo w' v := by
  obtain ⟨G, g, c, e, hG, hb, h⟩ := h
  exact ⟨G, g, c, e, hG, k.obj hb (fun hs => by have := hlo _ hs; omega), own_keeps k h (fun q e hs => by have := (h.lt q e).1; have := hlo _ hs; omega)⟩
def RlE (lv : Value) (L : List (Value × List UInt8)) (B : List UInt8) (lo : Nat) : Nat → Value → World → Prop
  | 0, _, w => w.ownsRow 0 31 1 lv L.length (L.map Prod.fst)
  | _ + 1, v, w => ∃ g cap row, v = .slice (some ⟨g, 0, none⟩) (L.length + 1) cap ∧ w.ownsRow 0 31 1 v (L.length + 1) (L.map Prod.fst ++ [row]) ∧ (lv.ownBlock = some g ∨ lo ≤ g) ∧ w.ownsRow lo 5 1 row 512 (u8s B) ∧ ∀ k, row.ownBlock = some k → k ≠ g
theorem RlE.same {lv : Value} {L : List (Value × List UInt8)} {B : List UInt8} {lo : Nat} (q : Nat) (v : Value) (a b : World) (h : RlE lv L B lo q v a) (k : Same a b) : RlE lv L B lo q v b := by
  cases q with
  | zero => exact own_keeps k h (fun _ _ e => e)
  | succ q =>
    obtain ⟨g, c, row, e, h1, h2, h3, h4⟩ := h
    exact ⟨g, c, row, e, own_keeps k h1 (fun _ _ e => e), h2, own_keeps k h3 (fun _ _ e => e), h4⟩
/-- A row of its own comes behind what lasts. -/
theorem RefAt.push {w1 w2 : World} {D : Nat} {lv : Value} {L : List (Value × List UInt8)} {left : Int} {down : Bool} (h : RefAt w1 D lv (.slice none 0 0) L [] left down) (hk : Keeps (fun k => lv.ownBlock = some k) w1 w2) {g cp : Nat} {row : Value} {B : List UInt8}
    (hrow : w2.ownsRow 0 31 1 (.slice (some ⟨g, 0, none⟩) (L.length + 1) cp) (L.length + 1) (L.map Prod.fst ++ [row])) (hat : lv.ownBlock = some g ∨ w1.heap.size ≤ g) (hro : w2.ownsRow w1.heap.size 5 1 row 512 (u8s B)) (hB : B.length = 512) (hrg : ∀ k, row.ownBlock = some k → k ≠ g) (hfew : L.length < 4096) :
    RefAt (w2.setCell ⟨D, 0, none⟩ (.slice (some ⟨g, 0, none⟩) (L.length + 1) cp)) D (.slice (some ⟨g, 0, none⟩) (L.length + 1) cp) (.slice none 0 0) (L ++ [(row, B)]) [] left down ∧ Keeps (fun k => lv.ownBlock = some k ∨ k = D) w1 (w2.setCell ⟨D, 0, none⟩ (.slice (some ⟨g, 0, none⟩) (L.length + 1) cp)) := by
  have kset : Keeps (fun k => k = D) w2 (w2.setCell ⟨D, 0, none⟩ (.slice (some ⟨g, 0, none⟩) (L.length + 1) cp)) := (Keeps.refl _ _).setCell _ _ (.inr rfl)
  have kk : Keeps (fun k => lv.ownBlock = some k ∨ k = D) w1 (w2.setCell ⟨D, 0, none⟩ (.slice (some ⟨g, 0, none⟩) (L.length + 1) cp)) := (hk.mono (fun _ _ e => .inl e)).trans kset (fun _ _ e => .inr e)
  have hD1 := h.obj.lt
  have hlr := fun k e => (hro.lt k e).1
  have hgD : g ≠ D := by
    rintro rfl
    rcases hat with hat | hat
    · exact h.nl hat
    · omega
  refine ⟨⟨(h.obj.keep hk h.nl).set 0 _, ?_, World.ownsRow_nil _ _ _ _, fun p hp => ?_, fun o ho => by simp at ho, by simpa [Value.ownBlock] using hgD, by simp [Value.ownBlock], fun k _ => by simp [Value.ownBlock], fun p hp k e => ?_, fun o ho => by simp at ho, by rw [List.length_append]; simp; omega⟩, kk⟩
  · rw [List.length_append, List.map_append]
    exact own_keeps kset hrow (fun j e e2 => by cases e; exact hgD e2)
  · rcases List.mem_append.1 hp with hp | hp
    · exact (h.rowL p hp).keep kk (fun j e e2 => by
        rcases e2 with e2 | e2
        · exact (h.sepL p hp j e).2.1 e2
        · exact (h.sepL p hp j e).1 e2)
    · simp only [List.mem_singleton] at hp
      subst hp
      exact ⟨own_base (own_keeps kset hro (fun j e e2 => by have := hlr j e; omega)) (Nat.zero_le _), hB⟩
  · rcases List.mem_append.1 hp with hp | hp
    · refine ⟨(h.sepL p hp k e).1, fun e2 => ?_, by simp [Value.ownBlock]⟩
      cases e2
      rcases hat with hat | hat
      · exact (h.sepL p hp g e).2.1 hat
      · have := ((h.rowL p hp).1.lt g e).2; omega
    · simp only [List.mem_singleton] at hp
      subst hp
      have := hlr k e
      exact ⟨by omega, fun e2 => by cases e2; exact hrg g e rfl, by simp [Value.ownBlock]⟩
theorem run_noughts_own (w : World) : ∃ w2, (Instr.makeSlice 31 (.int .i64 512) (.int .i64 512)).run Try.prog w = .ok (.slice (some ⟨w.heap.size, 0, none⟩) 512 512) w2 ∧ Same w w2 ∧ w2.ownsRow w.heap.size 5 1 (.slice (some ⟨w.heap.size, 0, none⟩) 512 512) 512 (u8s noughts) := by
  have h := run_make_row' (P := Try.prog) 31 5 (.int .u8 0) 1 Try.underlying31 Try.infoB8 rfl .i64 .i64 512 (by decide) (by decide) w
  refine ⟨_, h, (Keeps.refl _ _).alloc _, ⟨by simp [u8s_length, noughts_length], .inr ⟨w.heap.size, 512, madeCells #[.int .u8 0] 512, rfl, Nat.le_refl _, heap_alloc_new w _, Nat.le_refl _, by decide, by simp [madeCells], ?_⟩⟩⟩
  rw [show (madeCells #[Value.int .u8 0] 512).toList = u8s noughts from made_u8 512]
  exact List.take_of_length_le (by simp [u8s_length, noughts_length])

set_option maxRecDepth 100000 in
set_option maxHeartbeats 6400000 in
theorem rk_new (w : World) (n : Nat) (hn : n ≤ 4096) :
    Calls Try.prog 12 #[.int .i64 (n : Nat)] w fun e w' => ∃ D F, e = .returned (.pointer (some ⟨D, 0, none⟩)) ∧ Rk F w' D (DSt.new n) ∧ Same w w' ∧ ∀ k, F k → w.heap.size ≤ k := by
  obtain ⟨D, hD⟩ : ∃ D, w.heap.size = D := ⟨_, rfl⟩
  obtain ⟨w0, hw0⟩ : ∃ w0, w.alloc (.cells #[.slice none 0 0, .slice none 0 0, .int .i64 (-1), .bool false] 62) = w0 := ⟨_, rfl⟩
  have hb0 : Whole w0 D 62 [.slice none 0 0, .slice none 0 0, .int .i64 (-1), .bool false] := by rw [← hw0, ← hD]; exact heap_alloc_new w _
  have HK0 : Hid (Same w w0) := Lib.hid (by rw [← hw0]; exact (Keeps.refl _ _).alloc _)
  have HR0 : Hid (RefAt w0 D (.slice none 0 0) (.slice none 0 0) [] [] (-1) false) := Lib.hid ⟨hb0, World.ownsRow_nil _ _ _ _, World.ownsRow_nil _ _ _ _, by simp, by simp, by simp [Value.ownBlock], by simp [Value.ownBlock], by simp [Value.ownBlock], by simp, by simp, by simp⟩
  have HW0 := Lib.hid hw0
  have HD := Lib.hid hD
  clear hb0 hw0
  rw [hD]
  clear hD
  go_enter Try.func12, Try.ntmps12
  go_wp2_with fail
  rw [HW0.out, HD.out]
  go_loopw [4] (fun i wr => ∃ (j : Nat) (lv : Value) (L : List (Value × List UInt8)), j ≤ n ∧ i = .int .i64 j ∧ RefAt wr D lv (.slice none 0 0) L [] (-1) false ∧ L.map Prod.snd = List.replicate j noughts ∧ Same w wr ∧ ∀ k, FootR D lv (.slice none 0 0) L [] k → D ≤ k) (fun i _ => n - (intOf i).toNat)
  case atStart => exact ⟨0, .slice none 0 0, [], by omega, rfl, HR0.out, rfl, HK0.out, fun k e => by
    rcases e with e | e | e | ⟨p, hp, e⟩ | ⟨o, ho, e⟩
    · omega
    · simp [Value.ownBlock] at e
    · simp [Value.ownBlock] at e
    · simp at hp
    · simp at ho⟩
  case round =>
    obtain ⟨j, lv, L, hj, rfl, hr, hm, hs, hfo⟩ := hrel
    have HR := Lib.hid hr
    have HM := Lib.hid hm
    have HS := Lib.hid hs
    have HFO := Lib.hid hfo
    have hLj : L.length = j := by have := congrArg List.length hm; simpa using this
    have HLJ := Lib.hid hLj
    clear hr hm hs hfo hLj
    by_cases hlt : j < n
    · have hlt2 : (j : Int) < (n : Int) := by omega
      have HLL : Hid (L.length ≤ 100000) := Lib.hid (by have := HLJ.out; omega)
      have HLO : Hid (∀ k, lv.ownBlock = some k → k < wr.heap.size) := Lib.hid (fun k e => (HR.out.las.lt k e).2)
      have HC0 : Hid (∀ w', Keeps (fun k => lv.ownBlock = some k) wr w' → w'.cell? ⟨D, 0, none⟩ = some lv) := Lib.hid (fun w' k => (HR.out.obj.keep k HR.out.nl).cell (i := 0) rfl)
      go_wp2_with fail
      refine wp_region_hand [[], [], [1], [2], [3], [], [5], [4, 6], [0, 0, 1, 2, 3, 4, 5, 6, 7], [8, 0, 1, 2, 3, 4, 5, 6, 7], [9, 7, 7, 0, 1, 2, 3, 4, 5, 6, 7]]
        [some 12, some 13, some 14, some 15, some 16, some 17, some 18, some 19, some 20, some 21, none]
        [.is (.pointer (some ⟨D, 0, none⟩)), .is (.pointer (some ⟨D, 0, none⟩)), .is (.pointer (some ⟨D, 0, none⟩)), .is (.pointer (some ⟨D, 0, none⟩)), .is lv, .ex (OwnP noughts) OwnP.keep, .ex (RLitP noughts) RLitP.keep]
        (fun k => lv.ownBlock = some k) [7] (RlE lv L noughts wr.heap.size) 5 _ _ 23 8 11 (by kernel_rfl) (by rfl) (by rfl) (by omega) (by kernel_rfl) (by kernel_rfl) (by decide) (by decide) HLO.out HR.out.las RlE.same ?_ ?_
      · refine ⟨?_, ?_, ?_, ?_, ?_, ?_, ?_, ?_, trivial⟩
        · intro a w' K hk hdep hfr hK
          have f := hfr 3 (by decide)
          exact plan_do (by rfl) (plan_yield (i := 0) (V := fun _ _ v => v = (.pointer (some ⟨D, 0, none⟩) : Value)) (.pointer (some ⟨D, 0, none⟩)) (by go_simp) rfl hK)
        · intro a w' K hk hdep hfr hK
          have f := hfr 3 (by decide)
          exact plan_do (by rfl) (plan_yield (i := 1) (V := fun _ _ v => v = (.pointer (some ⟨D, 0, none⟩) : Value)) (.pointer (some ⟨D, 0, none⟩)) (by go_simp) rfl hK)
        · intro a w' K hk hdep hfr hK
          have e13 : a.tmps[13]?.getD undef = (.pointer (some ⟨D, 0, none⟩)) := hdep 1 (by decide) 13 rfl
          exact plan_do (by rfl) (plan_yield (i := 2) (V := fun _ _ v => v = (.pointer (some ⟨D, 0, none⟩) : Value)) (.pointer (some ⟨D, 0, none⟩)) (by go_simp) rfl hK)
        · intro a w' K hk hdep hfr hK
          have e14 : a.tmps[14]?.getD undef = (.pointer (some ⟨D, 0, none⟩)) := hdep 2 (by decide) 14 rfl
          exact plan_do (by rfl) (plan_yield (i := 3) (V := fun _ _ v => v = (.pointer (some ⟨D, 0, none⟩) : Value)) (.pointer (some ⟨D, 0, none⟩)) (by go_simp) rfl hK)
        · intro a w' K hk hdep hfr hK
          have e15 : a.tmps[15]?.getD undef = (.pointer (some ⟨D, 0, none⟩)) := hdep 3 (by decide) 15 rfl
          have cl := HC0.out w' hk
          exact plan_do (by rfl) (plan_yield (i := 4) (V := fun _ _ v => v = (lv : Value)) (lv) (by go_simp) rfl hK)
        · intro a w' K hk hdep hfr hK
          obtain ⟨w2, k, ks, kr⟩ := run_noughts_own w'
          exact plan_do (by rfl) (plan_grow (i := 5) (V := fun _ w v => OwnP noughts wr.heap.size w v) _ (by go_simp) ks ⟨_, _, rfl, own_base kr hk.size⟩ hK)
        · intro a w' K hk hdep hfr hK
          obtain ⟨g, cp, e17, ho⟩ : ∃ g cap, a.tmps[17]?.getD undef = .slice (some ⟨g, 0, none⟩) 512 cap ∧ w'.ownsRow wr.heap.size 5 1 (a.tmps[17]?.getD undef) 512 (u8s noughts) := hdep 5 (by decide) 17 rfl
          rw [e17] at ho
          exact plan_do (by rfl) (plan_go (.slice (some ⟨w'.heap.size, 0, none⟩) 1 1) (w'.alloc (.cells #[.slice (some ⟨g, 0, none⟩) 512 cp] 31)) (by go_simp) (hK _ _ ((Keeps.refl _ _).alloc _) ⟨w'.heap.size, g, cp, rfl, hk.size, heap_alloc_new w' _, own_keeps (S := fun _ => False) ((Keeps.refl _ _).alloc _) ho (fun _ _ e => e)⟩))
        · intro a w' K hk hdep hfr ev hE hev hK
          have e16 : a.tmps[16]?.getD undef = (lv) := hdep 4 (by decide) 16 rfl
          obtain ⟨G, gr, cr, eL, hG, hlit, ho⟩ : ∃ G g cap, a.tmps[18]?.getD undef = .slice (some ⟨G, 0, none⟩) 1 1 ∧ wr.heap.size ≤ G ∧ w'.heap[G]? = some (.cells #[.slice (some ⟨g, 0, none⟩) 512 cap] 31 (0, 0)) ∧ w'.ownsRow wr.heap.size 5 1 (.slice (some ⟨g, 0, none⟩) 512 cap) 512 (u8s noughts) := hdep 6 (by decide) 18 rfl
          obtain ⟨g, cp, w2, hrun, hown, hk2, hat⟩ := lies46 w' lv L.length (L.map Prod.fst) hE (.slice (some ⟨gr, 0, none⟩) 512 cr) G (by rw [cell_of_row _ _ _ _ _ _ hlit]; rfl) rfl HLL.out
          refine step_append_run (by rfl) (.tmp 16) (.tmp 18) 46 (by rfl) lv (.slice (some ⟨G, 0, none⟩) 1 1) _ w2 ((eval_tmp _ _).trans e16) ((eval_tmp _ _).trans eL) hrun ?_
          refine hK _ _ hk2 ⟨g, cp, .slice (some ⟨gr, 0, none⟩) 512 cr, rfl, hown, ?_, own_keeps hk2 ho (fun q e hs => by have := (ho.lt q e).1; have := HLO.out _ hs; omega), fun k e => ?_⟩ trivial
          · rcases hat with hat | hat
            · exact .inl hat
            · right; have := hk.size; omega
          · have hl := ho.lt k e
            rcases hat with hat | hat
            · have := HLO.out _ hat; omega
            · omega
      intro a w2 hk hdef hsz hv hfr ev hE1 hev
      have e19 := hev 0 19 rfl rfl
      have e12 : a.tmps[12]?.getD undef = .pointer (some ⟨D, 0, none⟩) := hv 0 12 (by omega) rfl
      obtain ⟨g, cp, row, rfl, hrow, hat, hro, hrg⟩ := hE1
      have he := act_eq a _ [some 12, some 13, some 14, some 15, some 16, some 17, some 18, some 19] 23 rfl hsz hdef hfr (fun d => a.tmps[d]?.getD undef) (fun _ _ => rfl)
      obtain ⟨v13, h13⟩ : ∃ v, a.tmps[13]?.getD undef = v := ⟨_, rfl⟩
      obtain ⟨v14, h14⟩ : ∃ v, a.tmps[14]?.getD undef = v := ⟨_, rfl⟩
      obtain ⟨v15, h15⟩ : ∃ v, a.tmps[15]?.getD undef = v := ⟨_, rfl⟩
      obtain ⟨v16, h16⟩ : ∃ v, a.tmps[16]?.getD undef = v := ⟨_, rfl⟩
      obtain ⟨v17, h17⟩ : ∃ v, a.tmps[17]?.getD undef = v := ⟨_, rfl⟩
      obtain ⟨v18, h18⟩ : ∃ v, a.tmps[18]?.getD undef = v := ⟨_, rfl⟩
      simp only [putAll, h13, h14, h15, h16, h17, h18, e12, e19, List.setIfInBounds_toArray, List.set_cons_zero, List.set_cons_succ] at he
      clear h13 h14 h15 h16 h17 h18 e12 e19 hdef hsz hv hfr hev
      subst he
      have hp := HR.out.push hk hrow hat hro noughts_length hrg (by have := HLJ.out; omega)
      have hob := HR.out.obj.keep hk HR.out.nl
      have c0 := hob.cell (i := 0) rfl
      have g0 := hob.free 0
      have HP := Lib.hid hp
      have HM2 : Hid ((L ++ [(row, noughts)]).map Prod.snd = List.replicate (j + 1) noughts) := Lib.hid (by rw [List.map_append, HM.out, List.replicate_succ']; rfl)
      have HS2 : Hid (Same w (w2.setCell ⟨D, 0, none⟩ (.slice (some ⟨g, 0, none⟩) (L.length + 1) cp))) := Lib.hid (HS.out.trans hp.2 (fun q hq e => by
        have := HD.out
        rcases e with e | e
        · have := HFO.out q (.inr (.inl e)); omega
        · omega))
      have HF2 : Hid (∀ k, FootR D (.slice (some ⟨g, 0, none⟩) (L.length + 1) cp) (.slice none 0 0) (L ++ [(row, noughts)]) [] k → D ≤ k) := Lib.hid (fun k e => by
        have hsz := HS.out.size
        have := HD.out
        rcases e with e | e | e | ⟨p, hp, e⟩ | ⟨o, ho, e⟩
        · omega
        · obtain rfl : g = k := by cases e; rfl
          rcases hat with hat | hat
          · exact HFO.out g (.inr (.inl hat))
          · omega
        · simp [Value.ownBlock] at e
        · rcases List.mem_append.1 hp with hp | hp
          · exact HFO.out k (.inr (.inr (.inr (.inl ⟨p, hp, e⟩))))
          · simp only [List.mem_singleton] at hp
            subst hp
            have := (hro.lt k e).1; omega
        · simp at ho)
      clear hk hrow hat hro hrg hp hob
      go_wp2
      go_roundw
      case rel => exact ⟨j + 1, _, _, by omega, by go_num, HP.out.1, HM2.out, HS2.out, HF2.out⟩
      case measure => simp [intOf]; omega
    · have hlt2 : ¬ (j : Int) < (n : Int) := by omega
      obtain rfl : j = n := by omega
      go_wp2
      go_ret
      exact ⟨D, rfl, _, ⟨lv, .slice none 0 0, L, [], HR.out, rfl, HM.out, rfl⟩, HS.out, HFO.out⟩
end Go.Proofs.Ytoimhniijeafaaa
