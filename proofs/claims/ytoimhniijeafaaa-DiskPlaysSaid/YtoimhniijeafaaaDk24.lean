/- The document's own Write of a sector. -/
import Derived.Test.YtoimhniijeafaaaDk23
import Derived.Test.YtoimhniijeafaaaPlan5
namespace Go.Proofs.Ytoimhniijeafaaa
open Go.RowKit
set_option linter.unusedVariables false

/-- append onto an empty literal: a row of the call's own. -/
theorem run_append_fresh {P : Program} (w : World) (t ty e : TypeId) (i : TypeInfo) (ht : P.underlying t = some (.slice e)) (hi : P.info? e = some i) (hz : i.zero = some (.int .u8 0)) (hs : i.size = 1) (hb : i.bytes = 1)
    (a0 : Addr) (x : Value) (more : List UInt8) (hx : Bytes w x more) (hl : more.length ≤ 140737488351232) (h0 : 0 < more.length) :
    ∃ g c w', (Builtin.append_ #[t, t] ty #[.slice (some a0) 0 0, x]).run P w = .ok (.slice (some ⟨g, 0, none⟩) more.length c) w' ∧ Same w w' ∧ w'.ownsRow w.heap.size e 1 (.slice (some ⟨g, 0, none⟩) more.length c) more.length (u8s more) := by
  rcases hx with ⟨a, c, rfl, hc⟩ | ⟨c, rfl, rfl⟩
  · obtain ⟨v', w', hr, h1, h2⟩ := run_append_arg_grows (P := P) w t ty e i (.int .u8 0) 1 1 ht hi hz hs hb rfl (by omega) a0 0 0 [] (by simp) (by simp) a more.length c (u8s more) (by rw [u8s_length, Nat.mul_one]) hc (by omega) (by unfold maxLen; omega) (by omega)
    simp only [List.nil_append, Nat.zero_add] at h1
    obtain ⟨g, cap, rfl, _⟩ := h1.form h0
    exact ⟨g, cap, w', hr, (Keeps.refl _ _).grown h2 (fun k e => by cases e), h1⟩
  · simp at h0
def EmpP (lo : Nat) (w : World) (v : Value) : Prop := ∃ g, v = .slice (some ⟨g, 0, none⟩) 0 0
theorem EmpP.keep (Sx : Nat → Prop) (lo : Nat) (w w' : World) (v : Value) (hlo : ∀ k, Sx k → k < lo) (h : EmpP lo w v) (k : Keeps Sx w w') : EmpP lo w' v := h
def OwnP (bs : List UInt8) (lo : Nat) (w : World) (v : Value) : Prop := ∃ g cap, v = .slice (some ⟨g, 0, none⟩) 512 cap ∧ w.ownsRow lo 5 1 v 512 (u8s bs)
def AggP (m : Nat) (bs : List UInt8) (lo : Nat) (w : World) (v : Value) : Prop := ∃ g cap, v = .agg #[.int .i64 (m : Int), .slice (some ⟨g, 0, none⟩) 512 cap] ∧ w.ownsRow lo 5 1 (.slice (some ⟨g, 0, none⟩) 512 cap) 512 (u8s bs)
def LitP (m : Nat) (bs : List UInt8) (lo : Nat) (w : World) (v : Value) : Prop := ∃ G g cap, v = .slice (some ⟨G, 0, none⟩) 1 1 ∧ lo ≤ G ∧ w.heap[G]? = some (.cells #[.int .i64 (m : Int), .slice (some ⟨g, 0, none⟩) 512 cap] 66 (0, 0)) ∧ w.ownsRow lo 5 1 (.slice (some ⟨g, 0, none⟩) 512 cap) 512 (u8s bs)
theorem OwnP.keep {bs : List UInt8} (Sx : Nat → Prop) (lo : Nat) (w w' : World) (v : Value) (hlo : ∀ k, Sx k → k < lo) (h : OwnP bs lo w v) (k : Keeps Sx w w') : OwnP bs lo w' v := by
  obtain ⟨g, c, e, h⟩ := h
  exact ⟨g, c, e, own_keeps k h (fun q e hs => by have := (h.lt q e).1; have := hlo _ hs; omega)⟩
theorem AggP.keep {m : Nat} {bs : List UInt8} (Sx : Nat → Prop) (lo : Nat) (w w' : World) (v : Value) (hlo : ∀ k, Sx k → k < lo) (h : AggP m bs lo w v) (k : Keeps Sx w w') : AggP m bs lo w' v := by
  obtain ⟨g, c, e, h⟩ := h
  exact ⟨g, c, e, own_keeps k h (fun q e hs => by have := (h.lt q e).1; have := hlo _ hs; omega)⟩
theorem LitP.keep {m : Nat} {bs : List UInt8} (Sx : Nat → Prop) (lo : Nat) (w w' : World) (v : Value) (hlo : ∀ k, Sx k → k < lo) (h : LitP m bs lo w v) (k : Keeps Sx w w') : LitP m bs lo w' v := by
  obtain ⟨G, g, c, e, hG, hb, h⟩ := h
  exact ⟨G, g, c, e, hG, k.obj hb (fun hs => by have := hlo _ hs; omega), own_keeps k h (fun q e hs => by have := (h.lt q e).1; have := hlo _ hs; omega)⟩
def RwE (ov : Value) (O : List (Nat × (Value × List UInt8))) (m : Nat) (bs : List UInt8) (lo : Nat) : Nat → Value → World → Prop
  | 0, _, w => OwnRow w 66 2 ocells ov O
  | _ + 1, v, w => ∃ g cap row, v = .slice (some ⟨g, 0, none⟩) (O.length + 1) cap ∧ OwnRow w 66 2 ocells v (O ++ [(m, (row, bs))]) ∧ (ov.ownBlock = some g ∨ lo ≤ g) ∧ w.ownsRow lo 5 1 row 512 (u8s bs) ∧ ∀ k, row.ownBlock = some k → k ≠ g
theorem RwE.same {ov : Value} {O : List (Nat × (Value × List UInt8))} {m : Nat} {bs : List UInt8} {lo : Nat} (q : Nat) (v : Value) (a b : World) (h : RwE ov O m bs lo q v a) (k : Same a b) : RwE ov O m bs lo q v b := by
  cases q with
  | zero => exact OwnRow.keep h k (fun _ _ e => e)
  | succ q =>
    obtain ⟨g, c, row, e, h1, h2, h3, h4⟩ := h
    exact ⟨g, c, row, e, h1.keep k (fun _ _ e => e), h2, own_keeps k h3 (fun _ _ e => e), h4⟩
theorem Try.infoRW : (Try.prog.info? 66).map (fun i => (i.zero, i.size, i.bytes)) = some (some (.agg #[.int .i64 0, .slice none 0 0]), 2, 32) := by kernel_rfl

set_option maxRecDepth 100000 in
set_option maxHeartbeats 6400000 in
theorem rk_write_in (w : World) (F : Nat → Prop) (D : Nat) (s : DSt) (m : Nat) (ao : Option Addr) (c : Nat) (bs : List UInt8) (h : Rk F w D s) (hlf : s.lim = true → 0 ≤ s.left ∧ s.left ≤ 9223372036854775807) (hd : s.down = false) (hm : m < s.L.length) (hx : Bytes w (.slice ao 512 c) bs) (hl : bs.length = 512) (hfar : ∀ a, ao = some a → ¬ F a.block) (hO : s.O.length ≤ 100000) :
    Calls Try.prog 22 #[.pointer (some ⟨D, 0, none⟩), .int .i64 (m : Nat), .slice ao 512 c] w fun e w' => ∃ F', e = .returned (.int .i64 (if s.power = true then 0 else 3)) ∧ Rk F' w' D (DSt.spent { s with O := s.O ++ [(m, bs)] }) ∧ Keeps F w w' ∧ Grow F F' w := by
  obtain ⟨iu, hiu, hu0, hu1, hu2⟩ := info_parts Try.infoB8
  obtain ⟨iw, hiw, hw0, hw1, hw2⟩ := info_parts Try.infoRW
  have huse := rk_use w F D s h hlf
  obtain ⟨lv, ov, L, O, h0, rfl, e1, e2⟩ := h
  obtain ⟨c0, c1, c2, c3⟩ := cell_of_four' h0.obj
  have hLl : s.L.length = L.length := by rw [← e1, List.length_map]
  obtain ⟨lo, lc, hlv⟩ : ∃ lo lc, lv = .slice lo L.length lc := by
    rcases h0.las.2 with ⟨e, h0⟩ | ⟨g, cp, cur, e, _⟩
    · exact ⟨none, 0, by rw [e, h0]⟩
    · exact ⟨_, cp, e⟩
  subst hlv
  rw [hd] at c3
  have hmi : (m : Int) < (L.length : Int) := by omega
  have hge : ¬ (m : Int) ≥ (L.length : Int) := by omega
  have HU := Lib.hid huse
  have HX := Lib.hid hx
  have HBL := Lib.hid hl
  obtain ⟨pw, hpw⟩ : ∃ pw, s.power = pw := ⟨_, rfl⟩
  rw [hpw] at HU ⊢
  have HPW := Lib.hid hpw
  have HML := Lib.hid hm
  have HFAR := Lib.hid hfar
  have HOL := Lib.hid hO
  clear huse hx h0 e1 e2 hLl hd hl c1 c2 hpw hm hfar hO
  go_enter Try.func22, Try.ntmps22
  go_wp2_with fail
  refine HU.out.mono ?_
  rintro e w1 ⟨rfl, hk1, hkeep1⟩
  obtain ⟨lv2, ov2, L2, O2, h1, hF, e1, e2⟩ := hk1
  have hsp : s.spent.L = s.L ∧ s.spent.O = s.O := by unfold DSt.spent; split <;> (try split) <;> exact ⟨rfl, rfl⟩
  rw [hsp.1] at e1
  rw [hsp.2] at e2
  have hO2 : O2.length ≤ 100000 := by rw [← e2, List.length_map] at HOL; exact HOL.out
  have hm2 : m < L2.length := by have := HML.out; rw [← e1, List.length_map] at this; exact this
  have H1 := Lib.hid h1
  have E1 := Lib.hid e1
  have E2 := Lib.hid e2
  have HF := Lib.hid hF
  have HK1 := Lib.hid hkeep1
  have HX1 := Lib.hid (HX.out.keeps hkeep1 (fun a n c' e => by
    simp only [Value.slice.injEq] at e
    exact fun e2 => HFAR.out a e.1 (.inl e2)))
  have HNO := Lib.hid h1.no
  have HC1 : Hid (∀ w', Keeps (fun k => ov2.ownBlock = some k) w1 w' → w'.cell? ⟨D, 1, none⟩ = some ov2) := Lib.hid (fun w' k => (H1.out.obj.keep k HNO.out).cell (i := 1) rfl)
  have HX2 : Hid (∀ w', Keeps (fun k => ov2.ownBlock = some k) w1 w' → Bytes w' (.slice ao 512 c) bs) := Lib.hid (fun w' k => HX1.out.keeps k (fun a n c' e e2 => by
    simp only [Value.slice.injEq] at e
    refine HFAR.out a e.1 ?_
    rw [HF.out]
    exact .inr (.inr (.inl e2))))
  clear h1 e1 e2 hF hkeep1 hsp
  have HSZ : Hid (w.heap.size ≤ w1.heap.size) := Lib.hid HK1.out.size
  go_wp2_with fail
  refine wp_region_hand [[], [], [1], [2], [3], [], [], [], [6, 7], [5, 8], [9], [4, 10, 8], [0, 0, 1, 2, 3, 4, 5, 6, 7, 8, 9, 10, 11], [12, 0, 1, 2, 3, 4, 5, 6, 7, 8, 9, 10, 11], [13, 11, 11, 0, 1, 2, 3, 4, 5, 6, 7, 8, 9, 10, 11]]
    [some 28, some 29, some 30, some 31, some 32, some 33, some 34, some 35, some 36, some 37, some 38, some 39, some 40, some 41, none]
    [.is (.pointer (some ⟨D, 0, none⟩)), .is (.pointer (some ⟨D, 0, none⟩)), .is (.pointer (some ⟨D, 0, none⟩)), .is (.pointer (some ⟨D, 1, none⟩)), .is ov2, .is (.int .i64 (m : Nat)), .ex EmpP EmpP.keep, .is (.slice ao 512 c), .ex (OwnP bs) OwnP.keep, .ex (AggP m bs) AggP.keep, .ex (LitP m bs) LitP.keep]
    (fun k => ov2.ownBlock = some k) [11] (RwE ov2 O2 m bs w1.heap.size) 8 _ _ 44 12 15 (by kernel_rfl) (by rfl) (by rfl) (by omega) (by kernel_rfl) (by kernel_rfl) (by decide) (by decide) (fun k e => H1.out.opn.lt k e) H1.out.opn RwE.same ?_ ?_
  · refine ⟨?_, ?_, ?_, ?_, ?_, ?_, ?_, ?_, ?_, ?_, ?_, ?_, trivial⟩
    · intro a w' K hk hdep hfr hK
      have f := hfr 0 (by decide)
      exact plan_do (by rfl) (plan_yield (i := 0) (V := fun _ _ v => v = (.pointer (some ⟨D, 0, none⟩) : Value)) (.pointer (some ⟨D, 0, none⟩)) (by go_simp) rfl hK)
    · intro a w' K hk hdep hfr hK
      have f := hfr 0 (by decide)
      exact plan_do (by rfl) (plan_yield (i := 1) (V := fun _ _ v => v = (.pointer (some ⟨D, 0, none⟩) : Value)) (.pointer (some ⟨D, 0, none⟩)) (by go_simp) rfl hK)
    · intro a w' K hk hdep hfr hK
      have e : a.tmps[29]?.getD undef = .pointer (some ⟨D, 0, none⟩) := hdep 1 (by decide) 29 rfl
      exact plan_do (by rfl) (plan_yield (i := 2) (V := fun _ _ v => v = (.pointer (some ⟨D, 0, none⟩) : Value)) (.pointer (some ⟨D, 0, none⟩)) (by go_simp) rfl hK)
    · intro a w' K hk hdep hfr hK
      have e : a.tmps[30]?.getD undef = .pointer (some ⟨D, 0, none⟩) := hdep 2 (by decide) 30 rfl
      exact plan_do (by rfl) (plan_yield (i := 3) (V := fun _ _ v => v = (.pointer (some ⟨D, 1, none⟩) : Value)) (.pointer (some ⟨D, 1, none⟩)) (by go_simp) rfl hK)
    · intro a w' K hk hdep hfr hK
      have e : a.tmps[31]?.getD undef = .pointer (some ⟨D, 1, none⟩) := hdep 3 (by decide) 31 rfl
      have cl := HC1.out w' hk
      exact plan_do (by rfl) (plan_yield (i := 4) (V := fun _ _ v => v = ov2) ov2 (by go_simp) rfl hK)
    · intro a w' K hk hdep hfr hK
      have f := hfr 1 (by decide)
      exact plan_do (by rfl) (plan_yield (i := 5) (V := fun _ _ v => v = (.int .i64 (m : Nat) : Value)) (.int .i64 (m : Nat)) (by go_simp) rfl hK)
    · intro a w' K hk hdep hfr hK
      exact plan_do (by rfl) (plan_go (.slice (some ⟨w'.heap.size, 0, none⟩) 0 0) (w'.alloc (.cells #[] 5)) (by go_simp) (hK _ _ ((Keeps.refl _ _).alloc _) ⟨w'.heap.size, rfl⟩))
    · intro a w' K hk hdep hfr hK
      have f := hfr 2 (by decide)
      exact plan_do (by rfl) (plan_yield (i := 7) (V := fun _ _ v => v = (.slice ao 512 c : Value)) (.slice ao 512 c) (by go_simp) rfl hK)
    · intro a w' K hk hdep hfr hK
      have e34 : EmpP w1.heap.size w' (a.tmps[34]?.getD undef) := hdep 6 (by decide) 34 rfl
      obtain ⟨g0, e34⟩ := e34
      have e35 : a.tmps[35]?.getD undef = .slice ao 512 c := hdep 7 (by decide) 35 rfl
      obtain ⟨gr, cr, w2, hrun, hs2, ho⟩ := run_append_fresh (P := Try.prog) w' 31 31 5 iu Try.underlying31 hiu hu0 hu1 hu2 ⟨g0, 0, none⟩ _ bs (HX2.out w' hk) (by have := HBL.out; omega) (by have := HBL.out; omega)
      rw [HBL.out] at hrun ho
      refine step_append_run (by rfl) (.tmp 34) (.tmp 35) 31 (by rfl) (.slice (some ⟨g0, 0, none⟩) 0 0) (.slice ao 512 c) _ w2 ((eval_tmp _ _).trans e34) ((eval_tmp _ _).trans e35) hrun ?_
      exact hK _ _ hs2 ⟨gr, cr, rfl, own_base ho hk.size⟩
    · intro a w' K hk hdep hfr hK
      have e33 : a.tmps[33]?.getD undef = .int .i64 (m : Nat) := hdep 5 (by decide) 33 rfl
      obtain ⟨g, cp, e36, ho⟩ : ∃ g cap, a.tmps[36]?.getD undef = .slice (some ⟨g, 0, none⟩) 512 cap ∧ w'.ownsRow w1.heap.size 5 1 (a.tmps[36]?.getD undef) 512 (u8s bs) := hdep 8 (by decide) 36 rfl
      rw [e36] at ho
      exact plan_do (by rfl) (plan_yield (i := 9) (V := fun _ w v => AggP m bs w1.heap.size w v) (.agg #[.int .i64 (m : Nat), .slice (some ⟨g, 0, none⟩) 512 cp]) (by go_simp) ⟨g, cp, rfl, ho⟩ hK)
    · intro a w' K hk hdep hfr hK
      obtain ⟨g, cp, e37, ho⟩ : ∃ g cap, a.tmps[37]?.getD undef = .agg #[.int .i64 (m : Int), .slice (some ⟨g, 0, none⟩) 512 cap] ∧ w'.ownsRow w1.heap.size 5 1 (.slice (some ⟨g, 0, none⟩) 512 cap) 512 (u8s bs) := hdep 9 (by decide) 37 rfl
      exact plan_do (by rfl) (wp_buildOne 60 66 (.tmp 37) rfl #[.int .i64 (m : Int), .slice (some ⟨g, 0, none⟩) 512 cp] iw _ ((eval_tmp _ _).trans e37) Try.underlying60 hiw hw0 (by rw [hw1]; rfl) (by simp) (by simp) (hK _ _ ((Keeps.refl _ _).alloc _) ⟨w'.heap.size, g, cp, rfl, hk.size, heap_alloc_new w' _, own_keeps (S := fun _ => False) ((Keeps.refl _ _).alloc _) ho (fun _ _ e => e)⟩))
    · intro a w' K hk hdep hfr ev hE hev hK
      have e32 : a.tmps[32]?.getD undef = ov2 := hdep 4 (by decide) 32 rfl
      obtain ⟨G, gr, cr, e38, hG, hlit, ho⟩ : ∃ G g cap, a.tmps[38]?.getD undef = .slice (some ⟨G, 0, none⟩) 1 1 ∧ w1.heap.size ≤ G ∧ w'.heap[G]? = some (.cells #[.int .i64 (m : Int), .slice (some ⟨g, 0, none⟩) 512 cap] 66 (0, 0)) ∧ w'.ownsRow w1.heap.size 5 1 (.slice (some ⟨g, 0, none⟩) 512 cap) 512 (u8s bs) := hdep 10 (by decide) 38 rfl
      obtain ⟨g, cp, w2, hrun, hown, hg, hat, _⟩ := run_append_lies (P := Try.prog) w' 60 60 0 66 iw (.agg #[.int .i64 0, .slice none 0 0]) 2 32 Try.underlying60 hiw hw0 hw1 hw2 (by rfl) (by omega) ov2 O2.length (O2.flatMap ocells) hE ⟨G, 0, none⟩ 1 1 [.int .i64 (m : Int), .slice (some ⟨gr, 0, none⟩) 512 cr] (by rfl)
        (fun j u hu => by rw [Addr.add_mid, cell_of_row _ _ _ _ _ _ hlit]; simpa using hu) (by simp [Value.oneCell']) (by omega) (by simp only [maxLen]; omega) (by omega) (Nat.zero_le _) w'.heap.size rfl
      have hlo1 : ∀ k, ov2.ownBlock = some k → k < w1.heap.size := fun k e => H1.out.opn.lt k e
      have hk2 : Keeps (fun k => ov2.ownBlock = some k) w' w2 := (Keeps.refl _ _).grown hg (fun k e _ => e)
      refine step_append_run (by rfl) (.tmp 32) (.tmp 38) 60 (by rfl) ov2 (.slice (some ⟨G, 0, none⟩) 1 1) _ w2 ((eval_tmp _ _).trans e32) ((eval_tmp _ _).trans e38) hrun ?_
      refine hK _ _ hk2 ⟨g, cp, .slice (some ⟨gr, 0, none⟩) 512 cr, rfl, ?_, ?_, own_keeps hk2 ho (fun q e hs => by have := (ho.lt q e).1; have := hlo1 _ hs; omega), fun k e => ?_⟩ trivial
      · unfold OwnRow
        rw [List.length_append, List.flatMap_append]
        simpa [ocells] using hown
      · rcases hat with hat | hat
        · exact .inl hat
        · right; have := hk.size; omega
      · have hl := ho.lt k e
        rcases hat with hat | hat
        · have := hlo1 _ hat; omega
        · omega
  intro a w2 hk hdef hsz hv hfr ev hE1 hev
  have e39 := hev 0 39 rfl rfl
  have e28 : a.tmps[28]?.getD undef = .pointer (some ⟨D, 0, none⟩) := hv 0 28 (by omega) rfl
  obtain ⟨g, cp, row, rfl, hrow, hat, hro, hrg⟩ := hE1
  have he := act_eq a _ [some 28, some 29, some 30, some 31, some 32, some 33, some 34, some 35, some 36, some 37, some 38, some 39] 44 rfl hsz hdef hfr (fun d => a.tmps[d]?.getD undef) (fun _ _ => rfl)
  obtain ⟨v29, h29⟩ : ∃ v, a.tmps[29]?.getD undef = v := ⟨_, rfl⟩
  obtain ⟨v30, h30⟩ : ∃ v, a.tmps[30]?.getD undef = v := ⟨_, rfl⟩
  obtain ⟨v31, h31⟩ : ∃ v, a.tmps[31]?.getD undef = v := ⟨_, rfl⟩
  obtain ⟨v32, h32⟩ : ∃ v, a.tmps[32]?.getD undef = v := ⟨_, rfl⟩
  obtain ⟨v33, h33⟩ : ∃ v, a.tmps[33]?.getD undef = v := ⟨_, rfl⟩
  obtain ⟨v34, h34⟩ : ∃ v, a.tmps[34]?.getD undef = v := ⟨_, rfl⟩
  obtain ⟨v35, h35⟩ : ∃ v, a.tmps[35]?.getD undef = v := ⟨_, rfl⟩
  obtain ⟨v36, h36⟩ : ∃ v, a.tmps[36]?.getD undef = v := ⟨_, rfl⟩
  obtain ⟨v37, h37⟩ : ∃ v, a.tmps[37]?.getD undef = v := ⟨_, rfl⟩
  obtain ⟨v38, h38⟩ : ∃ v, a.tmps[38]?.getD undef = v := ⟨_, rfl⟩
  simp only [putAll, e28, h29, h30, h31, h32, h33, h34, h35, h36, h37, h38, e39, List.setIfInBounds_toArray, List.set_cons_zero, List.set_cons_succ] at he
  clear e28 h29 h30 h31 h32 h33 h34 h35 h36 h37 h38 e39 hdef hsz hv hfr hev
  subst he
  have hlo1 : ∀ k, ov2.ownBlock = some k → k < w1.heap.size := fun k e => H1.out.opn.lt k e
  have hlr := fun k e => (hro.lt k e).1
  have hob := H1.out.obj.keep hk H1.out.no
  have c1 := hob.cell (i := 1) rfl
  have g1 := hob.free 1
  have kset : Keeps (fun k => k = D) w2 (w2.setCell ⟨D, 1, none⟩ (.slice (some ⟨g, 0, none⟩) (O2.length + 1) cp)) := (Keeps.refl _ _).setCell _ _ (.inr rfl)
  have hD1 := H1.out.obj.lt
  have hgD : g ≠ D := by
    rintro rfl
    rcases hat with hat | hat
    · exact H1.out.no hat
    · omega
  have hgl : lv2.ownBlock ≠ some g := fun e => by
    rcases hat with hat | hat
    · exact H1.out.nx g e hat
    · have := (H1.out.las.lt g e).2; omega
  have kk : Keeps (fun k => ov2.ownBlock = some k ∨ k = D) w1 (w2.setCell ⟨D, 1, none⟩ (.slice (some ⟨g, 0, none⟩) (O2.length + 1) cp)) := (hk.mono (fun _ _ e => .inl e)).trans kset (fun _ _ e => .inr e)
  have HR : Hid (RefAt (w2.setCell ⟨D, 1, none⟩ (.slice (some ⟨g, 0, none⟩) (O2.length + 1) cp)) D lv2 (.slice (some ⟨g, 0, none⟩) (O2.length + 1) cp) L2 (O2 ++ [(m, (row, bs))]) s.spent.rleft s.spent.down) := Lib.hid
    ⟨hob.set 1 _, own_keeps kk H1.out.las (fun j e e2 => by
        rcases e2 with e2 | e2
        · exact H1.out.nx j e e2
        · subst e2; exact H1.out.nl e), hrow.keep kset (fun j e e2 => by cases e; exact hgD e2), fun p hp => (H1.out.rowL p hp).keep kk (fun j e e2 => by
        rcases e2 with e2 | e2
        · exact (H1.out.sepL p hp j e).2.2 e2
        · exact (H1.out.sepL p hp j e).1 e2), fun o ho => by
        rcases List.mem_append.1 ho with ho | ho
        · exact ⟨(H1.out.rowO o ho).1.keep kk (fun j e e2 => by
            rcases e2 with e2 | e2
            · exact (H1.out.sepO o ho j e).2.2 e2
            · exact (H1.out.sepO o ho j e).1 e2), (H1.out.rowO o ho).2⟩
        · simp only [List.mem_singleton] at ho
          subst ho
          exact ⟨⟨own_base (own_keeps kset hro (fun j e e2 => by have := hlr j e; omega)) (Nat.zero_le _), HBL.out⟩, hm2⟩, H1.out.nl, by simpa [Value.ownBlock] using hgD, fun j e e2 => by cases e2; exact hgl e, fun p hp j e => ⟨(H1.out.sepL p hp j e).1, (H1.out.sepL p hp j e).2.1, fun e2 => by
        cases e2
        rcases hat with hat | hat
        · exact (H1.out.sepL p hp g e).2.2 hat
        · have := ((H1.out.rowL p hp).1.lt g e).2; omega⟩, fun o ho j e => by
        rcases List.mem_append.1 ho with ho | ho
        · exact ⟨(H1.out.sepO o ho j e).1, (H1.out.sepO o ho j e).2.1, fun e2 => by
            cases e2
            rcases hat with hat | hat
            · exact (H1.out.sepO o ho g e).2.2 hat
            · have := ((H1.out.rowO o ho).1.1.lt g e).2; omega⟩
        · simp only [List.mem_singleton] at ho
          subst ho
          have := hlr j e
          exact ⟨by omega, fun e2 => by have := (H1.out.las.lt j e2).2; omega, fun e2 => by cases e2; exact hrg g e rfl⟩, H1.out.few⟩
  have HG : Hid (Grow (FootR D (.slice lo L.length lc) ov L O) (FootR D lv2 (.slice (some ⟨g, 0, none⟩) (O2.length + 1) cp) L2 (O2 ++ [(m, (row, bs))])) w) := Lib.hid (fun k e => by
    rw [HF.out]
    have := HSZ.out
    rcases e with e | e | e | e | ⟨o, ho, e⟩
    · exact .inl (.inl e)
    · exact .inl (.inr (.inl e))
    · obtain rfl : g = k := by cases e; rfl
      rcases hat with hat | hat
      · exact .inl (.inr (.inr (.inl hat)))
      · right; omega
    · exact .inl (.inr (.inr (.inr (.inl e))))
    · rcases List.mem_append.1 ho with ho | ho
      · exact .inl (.inr (.inr (.inr (.inr ⟨o, ho, e⟩))))
      · simp only [List.mem_singleton] at ho
        subst ho
        right; have := hlr k e; omega)
  have HKK : Hid (Keeps (FootR D (.slice lo L.length lc) ov L O) w (w2.setCell ⟨D, 1, none⟩ (.slice (some ⟨g, 0, none⟩) (O2.length + 1) cp))) := Lib.hid (by
    rw [HF.out]
    exact (HK1.out.mono (fun _ _ e => .inl e)).trans kk (fun j hj e => by
      rcases e with e | e
      · exact .inr (.inr (.inl e))
      · exact .inl e))
  have HRK : Hid (Rk (FootR D lv2 (.slice (some ⟨g, 0, none⟩) (O2.length + 1) cp) L2 (O2 ++ [(m, (row, bs))])) (w2.setCell ⟨D, 1, none⟩ (.slice (some ⟨g, 0, none⟩) (O2.length + 1) cp)) D (DSt.spent { s with O := s.O ++ [(m, bs)] })) := Lib.hid (by
    have hsp2 : DSt.spent { s with O := s.O ++ [(m, bs)] } = { s.spent with O := s.O ++ [(m, bs)] } := by unfold DSt.spent; split <;> (try split) <;> simp_all
    rw [hsp2]
    refine ⟨_, _, _, _, HR.out, rfl, ?_, ?_⟩
    · have hL : s.spent.L = s.L := by unfold DSt.spent; split <;> (try split) <;> rfl
      show List.map Prod.snd L2 = s.spent.L
      rw [hL]; exact E1.out
    · rw [List.map_append, E2.out]; rfl)
  clear hk hrow hat hro hrg hlr hob kset kk hgl hlo1
  cases pw with
  | true =>
    go_wp2
    go_ret
    exact ⟨rfl, _, HRK.out, HKK.out, HG.out⟩
  | false =>
    go_wp2
    go_ret
    exact ⟨rfl, _, HRK.out, HKK.out, HG.out⟩
end Go.Proofs.Ytoimhniijeafaaa
