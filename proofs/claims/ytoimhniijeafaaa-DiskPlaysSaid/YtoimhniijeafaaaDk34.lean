/- The walk of DiskPlays. -/
import Derived.Test.YtoimhniijeafaaaDk33
namespace Go.Proofs.Ytoimhniijeafaaa
open Go.RowKit
set_option linter.unusedVariables false

theorem own_type {w : World} {b : Nat} {e : TypeId} {sz : Nat} {v : Value} {n : Nat} {xs : List Value} (h : w.ownsRow b e sz v n xs) {k : Nat} (hk : v.ownBlock = some k) : ∃ cur, w.heap[k]? = some (.cells cur e (0, 0)) := by
  rcases h.2 with ⟨e, _⟩ | ⟨g, cp, cur, e, _, hg, _⟩
  · rw [e] at hk; simp [Value.ownBlock] at hk
  · rw [e] at hk
    obtain rfl : g = k := by cases hk; rfl
    exact ⟨cur, hg⟩
theorem Dk.typ {F : Nat → Prop} {w : World} {D : Nat} {s : DSt} (h : Dk F w D s) {k : Nat} (hk : F k) : ∃ cur t, w.heap[k]? = some (.cells cur t (0, 0)) ∧ (t = 57 ∨ t = 59 ∨ t = 64) := by
  obtain ⟨lv, ov, h, rfl⟩ := h
  rcases hk with rfl | e | e
  · exact ⟨_, _, h.obj, .inl rfl⟩
  · obtain ⟨cur, hc⟩ := own_type h.las e
    exact ⟨cur, _, hc, .inr (.inl rfl)⟩
  · obtain ⟨cur, hc⟩ := own_type h.opn e
    exact ⟨cur, _, hc, .inr (.inr rfl)⟩
theorem Rk.typ {F : Nat → Prop} {w : World} {D : Nat} {s : DSt} (h : Rk F w D s) {k : Nat} (hk : F k) : ∃ cur t, w.heap[k]? = some (.cells cur t (0, 0)) ∧ (t = 62 ∨ t = 31 ∨ t = 66 ∨ t = 5) := by
  obtain ⟨lv, ov, L, O, h, rfl, _⟩ := h
  rcases hk with rfl | e | e | ⟨p, hp, e⟩ | ⟨o, ho, e⟩
  · exact ⟨_, _, h.obj, .inl rfl⟩
  · obtain ⟨cur, hc⟩ := own_type h.las e
    exact ⟨cur, _, hc, .inr (.inl rfl)⟩
  · obtain ⟨cur, hc⟩ := own_type h.opn e
    exact ⟨cur, _, hc, .inr (.inr (.inl rfl))⟩
  · obtain ⟨cur, hc⟩ := own_type (h.rowL p hp).1 e
    exact ⟨cur, _, hc, .inr (.inr (.inr rfl))⟩
  · obtain ⟨cur, hc⟩ := own_type (h.rowO o ho).1.1 e
    exact ⟨cur, _, hc, .inr (.inr (.inr rfl))⟩
/-- The two disks have no block in common: their blocks are of unlike types. -/
theorem dk_rk_apart {F G : Nat → Prop} {w : World} {D M : Nat} {s t : DSt} (h : Dk F w D s) (h2 : Rk G w M t) : ∀ k, F k → ¬ G k := by
  intro k e e2
  obtain ⟨c1, t1, h1, q1⟩ := h.typ e
  obtain ⟨c2, t2, h2, q2⟩ := h2.typ e2
  rw [h1] at h2
  simp only [Option.some.injEq, Obj.cells.injEq] at h2
  obtain ⟨_, rfl, _⟩ := h2
  rcases q1 with rfl | rfl | rfl <;> simp at q2
theorem Try.infoInt : (Try.prog.info? 3).map (fun i => (i.zero, i.size, i.bytes)) = some (some (.int .i64 0), 1, 8) := by kernel_rfl
theorem run_append_ints (w : World) (a0 : Addr) (fa : Option Addr) (fc : Nat) (fs : List Int) (hx : Ints w (.slice fa fs.length fc) fs) (hl : fs.length ≤ 2000) :
    ∃ a c w', (Builtin.append_ #[32, 32] 32 #[.slice (some a0) 0 0, .slice fa fs.length fc]).run Try.prog w = .ok (.slice (some a) fs.length c) w' ∧ Same w w' ∧ Ints w' (.slice (some a) fs.length c) fs := by
  obtain ⟨ii, hii, h0, h1, h2⟩ := info_parts Try.infoInt
  rcases Nat.eq_zero_or_pos fs.length with hz | hz
  · obtain rfl := List.length_eq_zero_iff.1 hz
    exact ⟨a0, 0, w, run_append_zero w 32 32 3 ii Try.underlying32 hii _ _ _ _ _ (Nat.le_refl _), Keeps.refl _ _, Ints.nil _ _ _⟩
  · rcases hx with ⟨a, c, e, hc⟩ | ⟨c, e, rfl⟩
    · simp only [Value.slice.injEq] at e
      obtain ⟨rfl, _, _⟩ := e
      obtain ⟨v', w', hr, g1, g2⟩ := run_append_arg_grows (P := Try.prog) w 32 32 3 ii (.int .i64 0) 1 8 Try.underlying32 hii h0 h1 h2 rfl (by omega) a0 0 0 [] (by simp) (by simp) a fs.length fc (i64s fs) (by rw [i64s_length, Nat.mul_one]) (fun j u hu => by
        simp only [i64s, List.getElem?_map] at hu
        cases hq : fs[j]? with
        | none => rw [hq] at hu; simp at hu
        | some z => rw [hq] at hu; simp at hu; subst hu; exact hc j z hq) (by omega) (by unfold maxLen; omega) (by omega)
      simp only [List.nil_append, Nat.zero_add] at g1
      obtain ⟨g, cap, rfl, _⟩ := g1.form hz
      exact ⟨⟨g, 0, none⟩, cap, w', hr, (Keeps.refl _ _).grown g2 (fun k e => by cases e), Ints.of_own g1⟩
    · simp at hz
def DcrP (s : DSt) (fs : List Int) (lo : Nat) (w : World) (v : Value) : Prop := ∃ X FX, v = .pointer (some ⟨X, 0, none⟩) ∧ Dk FX w X (s.crashed fs) ∧ ∀ k, FX k → lo ≤ k
def RcrP (s : DSt) (fs : List Int) (lo : Nat) (w : World) (v : Value) : Prop := ∃ X FX, v = .pointer (some ⟨X, 0, none⟩) ∧ Rk FX w X (s.crashed fs) ∧ ∀ k, FX k → lo ≤ k
theorem DcrP.keep {s : DSt} {fs : List Int} (Sx : Nat → Prop) (lo : Nat) (w w' : World) (v : Value) (hlo : ∀ k, Sx k → k < lo) (h : DcrP s fs lo w v) (k : Keeps Sx w w') : DcrP s fs lo w' v := by
  obtain ⟨X, FX, e, hd, hg⟩ := h
  exact ⟨X, FX, e, hd.keep k (fun j e e2 => by have := hg j e; have := hlo j e2; omega), hg⟩
theorem RcrP.keep {s : DSt} {fs : List Int} (Sx : Nat → Prop) (lo : Nat) (w w' : World) (v : Value) (hlo : ∀ k, Sx k → k < lo) (h : RcrP s fs lo w v) (k : Keeps Sx w w') : RcrP s fs lo w' v := by
  obtain ⟨X, FX, e, hd, hg⟩ := h
  exact ⟨X, FX, e, hd.keep k (fun j e e2 => by have := hg j e; have := hlo j e2; omega), hg⟩
def PlE (F G : Nat → Prop) (D M : Nat) (s t : DSt) (i : Int) (B : List UInt8) (gb cb lo : Nat) : Nat → World → Prop
  | 0, w => Dk F w D s ∧ Rk G w M t ∧ w.ownsRow 0 5 1 (.slice (some ⟨gb, 0, none⟩) B.length cb) B.length (u8s B) ∧ ¬ F gb ∧ ¬ G gb
  | 1, w => ∃ F1, Dk F1 w D (s.awrote i B) ∧ Rk G w M t ∧ w.ownsRow 0 5 1 (.slice (some ⟨gb, 0, none⟩) B.length cb) B.length (u8s B) ∧ ¬ F1 gb ∧ ¬ G gb ∧ ∀ k, F1 k → F k ∨ lo ≤ k
  | _, w => ∃ F1 G1, Dk F1 w D (s.awrote i B) ∧ Rk G1 w M (t.awrote i B) ∧ w.ownsRow 0 5 1 (.slice (some ⟨gb, 0, none⟩) B.length cb) B.length (u8s B) ∧ ¬ F1 gb ∧ ¬ G1 gb ∧ (∀ k, F1 k → F k ∨ lo ≤ k) ∧ ∀ k, G1 k → G k ∨ lo ≤ k
theorem PlE.same {F G : Nat → Prop} {D M : Nat} {s t : DSt} {i : Int} {B : List UInt8} {gb cb lo : Nat} (c : Nat) (w w' : World) (h : PlE F G D M s t i B gb cb lo c w) (k : Same w w') : PlE F G D M s t i B gb cb lo c w' := by
  match c, h with
  | 0, h => exact ⟨h.1.same k, h.2.1.same k, own_keeps k h.2.2.1 (fun _ _ e => e), h.2.2.2⟩
  | 1, ⟨F1, h⟩ => exact ⟨F1, h.1.same k, h.2.1.same k, own_keeps k h.2.2.1 (fun _ _ e => e), h.2.2.2⟩
  | c + 2, ⟨F1, G1, h⟩ => exact ⟨F1, G1, h.1.same k, h.2.1.same k, own_keeps k h.2.2.1 (fun _ _ e => e), h.2.2.2⟩
set_option maxRecDepth 100000 in
set_option maxHeartbeats 25600000 in
theorem plays_ok (w : World) (sec : Int) (ao : Option Addr) (n cap : Nat) (ops : List LOp) (hn : n = ops.length) (h : Ops w ao ops) (hwf : ∀ o ∈ ops, o.Wf) :
    Calls Try.prog 4 #[.int .i64 sec, .slice ao n cap] w fun e w' => e = .returned (.bool true) ∧ Same w w' := by
  have HN := Lib.hid hn
  have HO := Lib.hid h
  have HWF := Lib.hid hwf
  clear hn h hwf
  by_cases hA : 40 < sec ∧ sec ≤ 4096
  · obtain ⟨a1, a2⟩ := hA
    go_enter Try.func4, Try.ntmps4
    go_wp2_with fail
    (refine (speaks_ok _).mono ?_); rintro e w0 ⟨rfl, hk0⟩
    have HK0 := Lib.hid hk0
    clear hk0
    go_wp2
    go_ret
    exact ⟨rfl, HK0.out⟩
  by_cases hB : 40 < sec
  · have hB2 : ¬ sec ≤ 4096 := by omega
    have hB3 : 4096 < sec := by omega
    have hB4 : ¬ sec < 1 := by omega
    clear hA
    cases hq : greatOf ops with
    | true =>
      have HQ := Lib.hid hq
      clear hq
      go_enter Try.func4, Try.ntmps4
      go_wp2_with fail
      (refine (speaks_ok _).mono ?_); rintro e w0 ⟨rfl, hk0⟩
      have HK0 := Lib.hid hk0
      clear hk0
      go_wp2_with fail
      (refine (great_ok' true _ ao n cap ops HN.out (HO.out.same HK0.out) HQ.out).mono ?_); rintro e w1 ⟨rfl, hk⟩
      have HK1 : Hid (Same w w1) := Lib.hid (HK0.out.trans hk (fun _ _ e => e))
      clear HK0 hk
      go_wp2
      go_ret
      exact ⟨rfl, HK1.out⟩
    | false =>
      have HQ := Lib.hid hq
      clear hq
      go_enter Try.func4, Try.ntmps4
      go_wp2_with fail
      (refine (speaks_ok _).mono ?_); rintro e w0 ⟨rfl, hk0⟩
      have HK0 := Lib.hid hk0
      clear hk0
      go_wp2_with fail
      (refine (great_ok' false _ ao n cap ops HN.out (HO.out.same HK0.out) HQ.out).mono ?_); rintro e w1 ⟨rfl, hk⟩
      have HK1 : Hid (Same w w1) := Lib.hid (HK0.out.trans hk (fun _ _ e => e))
      clear HK0 hk
      go_wp2_with fail
      (refine (new_no sec _ (by omega)).mono ?_); rintro e w2 ⟨rfl, rfl⟩
      go_wp2
      go_ret
      exact ⟨rfl, HK1.out⟩
  clear hA
  cases hq : greatOf ops with
  | true =>
    have HQ := Lib.hid hq
    clear hq
    go_enter Try.func4, Try.ntmps4
    go_wp2_with fail
    (refine (speaks_ok _).mono ?_); rintro e w0 ⟨rfl, hk0⟩
    have HK0 := Lib.hid hk0
    clear hk0
    go_wp2_with fail
    (refine (great_ok' true _ ao n cap ops HN.out (HO.out.same HK0.out) HQ.out).mono ?_); rintro e w1 ⟨rfl, hk⟩
    have HK1 : Hid (Same w w1) := Lib.hid (HK0.out.trans hk (fun _ _ e => e))
    clear HK0 hk
    go_wp2
    go_ret
    exact ⟨rfl, HK1.out⟩
  | false =>
  have HQ := Lib.hid hq
  have HGR := Lib.hid (great_of ops hq)
  have hnb : n ≤ 1000 := by have := HN.out; have := HGR.out.1; omega
  clear hq
  by_cases hC : sec < 1
  · have hC2 : ¬ 4096 < sec := by omega
    go_enter Try.func4, Try.ntmps4
    go_wp2_with fail
    (refine (speaks_ok _).mono ?_); rintro e w0 ⟨rfl, hk0⟩
    have HK0 := Lib.hid hk0
    clear hk0
    go_wp2_with fail
    (refine (great_ok' false _ ao n cap ops HN.out (HO.out.same HK0.out) HQ.out).mono ?_); rintro e w1 ⟨rfl, hk⟩
    have HK1 : Hid (Same w w1) := Lib.hid (HK0.out.trans hk (fun _ _ e => e))
    clear HK0 hk
    go_wp2_with fail
    (refine (new_no sec _ (by omega)).mono ?_); rintro e w2 ⟨rfl, rfl⟩
    go_wp2
    go_ret
    exact ⟨rfl, HK1.out⟩
  obtain ⟨N, rfl⟩ : ∃ N : Nat, sec = (N : Int) := ⟨sec.toNat, by omega⟩
  have hC2 : ¬ 4096 < (N : Int) := by omega
  have HNB : Hid (1 ≤ N ∧ N ≤ 40) := Lib.hid (by omega)
  go_enter Try.func4, Try.ntmps4
  go_wp2_with fail
  (refine (speaks_ok _).mono ?_); rintro e w0 ⟨rfl, hk0⟩
  have HK0 := Lib.hid hk0
  clear hk0
  go_wp2_with fail
  (refine (great_ok' false _ ao n cap ops HN.out (HO.out.same HK0.out) HQ.out).mono ?_); rintro e w1 ⟨rfl, hk⟩
  have HK1 : Hid (Same w w1) := Lib.hid (HK0.out.trans hk (fun _ _ e => e))
  clear HK0 hk
  go_wp2_with fail
  (refine (dk_new (N : Int) _ (by have := HNB.out; omega) (by have := HNB.out; omega)).mono ?_); rintro e w2 ⟨D, F, rfl, hd, hk, hf⟩
  rw [Int.toNat_natCast] at hd
  have HD := Lib.hid hd
  have HK2 : Hid (Same w w2) := Lib.hid (HK1.out.trans hk (fun _ _ e => e))
  have HF := Lib.hid (fun k e => Nat.le_trans HK1.out.size (hf k e))
  clear hd hk hf HK1
  go_wp2_with fail
  (refine (rk_new _ N (by have := HNB.out; omega)).mono ?_); rintro e w3 ⟨M, G, rfl, hr, hk, hg⟩
  have HP : Hid (PlI w w3 F G D M (DSt.new N)) := Lib.hid ⟨HD.out.same hk, hr, HK2.out.trans hk (fun _ _ e => e), HF.out, fun k e => Nat.le_trans HK2.out.size (hg k e), dk_rk_apart (HD.out.same hk) hr, by have := HNB.out; simp [DSt.new]; omega⟩
  clear hr hk hg HD HK2 HF hB hC hC2
  go_wp2
  go_loopw [5, 7, 59] (fun dv mv i wr => ∃ (j D M : Nat) (F G : Nat → Prop) (s : DSt), j ≤ n ∧ i = .int .i64 j ∧ dv = .pointer (some ⟨D, 0, none⟩) ∧ mv = .pointer (some ⟨M, 0, none⟩) ∧ PlI w wr F G D M s ∧ s.O.length ≤ j) (fun _ _ i _ => n - (intOf i).toNat)
  case atStart => exact ⟨0, D, M, F, G, _, by omega, rfl, rfl, rfl, HP.out, by simp [DSt.new]⟩
  case round =>
    clear HP
    obtain ⟨j, D, M, F, G, s, hj, rfl, rfl, rfl, hp, hol⟩ := hrel
    have HP := Lib.hid hp
    have HOL := Lib.hid hol
    clear hp hol
    by_cases hlt : j < n
    case neg =>
      have hlt2 : ¬ (j : Int) < (n : Int) := by omega
      go_wp2
      go_ret
      exact ⟨rfl, HP.out.same⟩
    have hlt2 : (j : Int) < (n : Int) := by omega
    have hjo : j < ops.length := by have := HN.out; omega
    obtain ⟨go, off, rfl, hat⟩ := (HO.out.same HP.out.same).at (by omega)
    have hat2 := hat j hjo
    have HLS := Lib.hid (sizeLOp ops[j])
    have HXW := Lib.hid (HWF.out _ (List.getElem_mem hjo))
    have HXG := Lib.hid (HGR.out.2 _ (List.getElem_mem hjo))
    generalize ops[j] = x at *
    have HRA := Lib.hid hat2.1
    obtain ⟨w4, hst, hb3, hk3, hs3⟩ := store_lop wr x
    obtain ⟨B3, hB3⟩ : ∃ B3, wr.heap.size = B3 := ⟨_, rfl⟩
    have HFB : Hid (¬ F B3 ∧ ¬ G B3) := Lib.hid ⟨fun e => by have := HP.out.dk.lt _ e; omega, fun e => by have := HP.out.rk.lt _ e; omega⟩
    rw [hB3] at hst hb3
    have HOB := Lib.hid (show Whole w4 B3 34 x.cells from hb3)
    have HBR : Hid (w4.rangeAt B3 (0 * 5) x.cells) := Lib.hid (fun q u hu => by rw [cell_of_row _ _ _ _ _ _ hb3]; simpa using hu)
    have HIN : Hid (x.In w4) := Lib.hid ⟨hat2.2.1.same hk3, hat2.2.2.same hk3⟩
    have HP4 := Lib.hid (HP.out.keep hk3)
    have HOO : Hid (s.O.length ≤ 100000) := Lib.hid (by have := HOL.out; omega)
    clear hb3 hk3 hat hat2 hs3 HP
    go_wp2_with (first
      | (refine wpList_load_mid (by rfl) 34 _ (by rfl) go (off + j * 5) (by rfl) x.cells _ HRA.out Try.underlying34 rfl HLS.out ?_)
      | (refine wpList_load_mid (by rfl) 34 _ (by rfl) B3 (0 * 5) (by rfl) x.cells _ HBR.out Try.underlying34 rfl HLS.out ?_))
    clear hst
    (refine (lop_bytes x w4 HIN.out HXG.out.1).mono ?_); rintro e w5 ⟨gb, cb, B, rfl, hBl, ho, hk5⟩
    have HBL := Lib.hid hBl
    have HP5 := Lib.hid (HP4.out.keep hk5)
    have HOB5 := Lib.hid (HOB.out.keep hk5 (fun e => e))
    have HIN5 : Hid (x.In w5) := Lib.hid ⟨HIN.out.1.same hk5, HIN.out.2.same hk5⟩
    have HRB := Lib.hid (own_base ho (Nat.zero_le _))
    have HGB : Hid (¬ F gb ∧ ¬ G gb ∧ w.heap.size ≤ gb) := Lib.hid ⟨fun e => by have := HP4.out.dk.lt _ e; have := (ho.lt gb rfl).1; omega, fun e => by have := HP4.out.rk.lt _ e; have := (ho.lt gb rfl).1; omega, by have := HP4.out.same.size; have := (ho.lt gb rfl).1; omega⟩
    clear hBl ho hk5 HP4 HOB HIN HBR HRA
    have d0 := (cell_of_five HOB5.out).1
    have d1 := (cell_of_five HOB5.out).2.1
    have d4 := (cell_of_five HOB5.out).2.2.2.2
    obtain ⟨z, hz⟩ : ∃ z, x.kd % 8 = z := ⟨_, rfl⟩
    have ez : bits BinOp.and IntKind.i64 x.kd 7 = z := by rw [and_7]; exact hz
    clear hz
    by_cases z0 : z = 0
    · subst z0
      go_wp2_with fail
      (refine (dk_flush w5 F D s HP5.out.dk HOO.out).mono ?_); rintro e w6 ⟨F6, rfl, hd, hk, hg⟩
      have HD6 := Lib.hid hd
      have HK6 := Lib.hid hk
      have HG6 := Lib.hid hg
      have HR6 := Lib.hid (HP5.out.rk.keep hk (fun k e e2 => HP5.out.apart k e2 e))
      clear hd hk hg
      go_wp2_with fail
      (refine (rk_flush w6 G M s HR6.out HP5.out.dk.lft HOO.out).mono ?_); rintro e w7 ⟨G7, rfl, hr, hk, hg⟩
      have HP7 := Lib.hid (HP5.out.both HD6.out HK6.out HG6.out hr hk hg (by rw [(flushed_len s).1]; exact HP5.out.pos))
      have HO7 := Lib.hid (Nat.le_trans (flushed_len s).2 HOO.out)
      have HO8 : Hid (s.flushed.O.length ≤ j + 1) := Lib.hid (by have := (flushed_len s).2; have := HOL.out; omega)
      clear hr hk hg
      go_wp2_with fail
      (refine (same_ok w7 F6 G7 D M _ HP7.out.dk HP7.out.rk HO7.out).mono ?_); rintro e w8 ⟨rfl, hk⟩
      have HP8 := Lib.hid (HP7.out.keep hk)
      clear hk d0 d1 d4
      go_wp2
      go_roundw
      case rel => exact ⟨j + 1, D, M, F6, G7, _, by omega, by go_num, rfl, rfl, HP8.out, HO8.out⟩
      case measure => simp [intOf]; omega
    by_cases z1 : z = 1
    · subst z1
      go_wp2_with fail
      (refine (dk_limit w5 F D s x.at' HP5.out.dk HXW.out.1.2).mono ?_); rintro e w6 ⟨⟨_, rfl⟩, hd, hk⟩
      have HD6 := Lib.hid hd
      have HK6 := Lib.hid hk
      have HR6 := Lib.hid (HP5.out.rk.keep hk (fun k e e2 => HP5.out.apart k e2 e))
      have d1 := (cell_of_five (HOB5.out.keep hk HFB.out.1)).2.1
      clear hd hk
      go_wp2_with fail
      (refine (rk_limit w6 G M s x.at' HR6.out).mono ?_); rintro e w7 ⟨⟨_, rfl⟩, hr, hk⟩
      have hGM : G M := by
        obtain ⟨lv, ov, L, O, _, hG, _⟩ := HR6.out
        rw [hG]; exact .inl rfl
      have HP7 := Lib.hid (HP5.out.both HD6.out HK6.out (fun k e => .inl e) hr (hk.mono (fun k _ e => by rw [e]; exact hGM)) (fun k e => .inl e) HP5.out.pos)
      have HO8 : Hid ((s.limit x.at').O.length ≤ j + 1) := Lib.hid (by have := HOL.out; show s.O.length ≤ j + 1; omega)
      clear hr hk
      go_wp2_with fail
      (refine (same_ok w7 F G D M _ HP7.out.dk HP7.out.rk HOO.out).mono ?_); rintro e w8 ⟨rfl, hk⟩
      have HP8 := Lib.hid (HP7.out.keep hk)
      clear hk d0 d1 d4
      go_wp2
      go_roundw
      case rel => exact ⟨j + 1, D, M, F, G, _, by omega, by go_num, rfl, rfl, HP8.out, HO8.out⟩
      case measure => simp [intOf]; omega
    by_cases z2 : z = 2
    · subst z2
      have HEM : Hid (Whole (w5.alloc (.cells #[] 3)) B3 34 x.cells) := Lib.hid (HOB5.out.keep (S := fun _ => False) ((Keeps.refl _ _).alloc _) (fun e => e))
      have d4' := (cell_of_five HEM.out).2.2.2.2
      obtain ⟨fa2, fc2, w6, hrun, hk6, hfi⟩ := run_append_ints (w5.alloc (.cells #[] 3)) ⟨w5.heap.size, 0, none⟩ x.fa x.fc x.fs (HIN5.out.2.same ((Keeps.refl _ _).alloc _)) HXG.out.2
      have hk56 : Same w5 w6 := ((Keeps.refl (fun _ => False) w5).alloc _).trans hk6 (fun _ _ e => e)
      have HP6 := Lib.hid (HP5.out.keep hk56)
      have HFI := Lib.hid hfi
      have HFO : Hid (Ints w6 (.slice x.fa x.fs.length x.fc) x.fs) := Lib.hid (HIN5.out.2.same hk56)
      have HFW := Lib.hid HXW.out.2
      have HOB6 := Lib.hid (HOB5.out.keep hk56 (fun e => e))
      have HCL : Hid (∀ w', Same w6 w' → w'.cell? ⟨B3, 4, none⟩ = some (.slice x.fa x.fs.length x.fc)) := Lib.hid (fun w' k => (cell_of_five (HOB6.out.keep k (fun e => e))).2.2.2.2)
      have HRUN := Lib.hid hrun
      clear hk6 hfi hk56 hrun
      go_wp2_with (refine wpList_append_run (by rfl) _ _ 32 (by rfl) (.slice (some ⟨w5.heap.size, 0, none⟩) 0 0) (.slice x.fa x.fs.length x.fc) _ w6 (by rfl) (by rfl) HRUN.out ?_)
      clear d4'
      refine wp_region_tail [[], [], [0, 1], [], [], [4], [3, 5, 2], [2, 6, 0, 1, 2], [6, 7, 0, 1, 2, 3, 4, 5, 6, 7]]
        [some 104, some 105, some 106, some 107, some 108, some 109, some 110, some 12, some 13]
        [.is (.pointer (some ⟨D, 0, none⟩)), .is (.slice (some fa2) x.fs.length fc2), .ex (DcrP s x.fs) DcrP.keep, .is (.pointer (some ⟨M, 0, none⟩)), .is (.pointer (some ⟨B3, 4, none⟩)), .is (.slice x.fa x.fs.length x.fc), .ex (RcrP s x.fs) RcrP.keep, .ex (DcrP s x.fs) DcrP.keep, .ex (RcrP s x.fs) RcrP.keep]
        (fun _ => False) [] (fun _ _ => True) 25 _ _ 134 9 9 (by kernel_rfl) (by rfl) (by rfl) (by omega) (by kernel_rfl) (by kernel_rfl) (by decide) (by decide) (fun _ e => e.elim) trivial (fun _ _ _ h _ => h) ?_ ?_
      · refine ⟨?_, ?_, ?_, ?_, ?_, ?_, ?_, ?_, ?_, trivial⟩
        · intro a w' K hk hdep hfr hK
          have f := hfr 5 (by decide)
          exact plan_do (by rfl) (plan_yield (i := 0) (V := fun _ _ v => v = (.pointer (some ⟨D, 0, none⟩) : Value)) (.pointer (some ⟨D, 0, none⟩)) (by go_simp) rfl hK)
        · intro a w' K hk hdep hfr hK
          have f := hfr 11 (by decide)
          exact plan_do (by rfl) (plan_yield (i := 1) (V := fun _ _ v => v = (.slice (some fa2) x.fs.length fc2 : Value)) (.slice (some fa2) x.fs.length fc2) (by go_simp) rfl hK)
        · intro a w' K hk hdep hfr hK
          have e104 : a.tmps[104]?.getD undef = (.pointer (some ⟨D, 0, none⟩)) := hdep 0 (by decide) 104 rfl
          have e105 : a.tmps[105]?.getD undef = (.slice (some fa2) x.fs.length fc2) := hdep 1 (by decide) 105 rfl
          refine plan_do (by rfl) (plan_call 18 #[.pointer (some ⟨D, 0, none⟩), .slice (some fa2) x.fs.length fc2] (by go_simp) ?_)
          exact (dk_crash w' F D s (some fa2) x.fs.length fc2 x.fs (HP6.out.dk.same hk) HP6.out.pos HOO.out rfl (HFI.out.same hk)).mono fun e w2 ⟨X, FX, he, hx, hk2, hg⟩ => ⟨_, he, hK _ _ hk2 ⟨X, FX, rfl, hx, fun k e => by have := hg k e; have := hk.size; omega⟩⟩
        · intro a w' K hk hdep hfr hK
          have f := hfr 7 (by decide)
          exact plan_do (by rfl) (plan_yield (i := 3) (V := fun _ _ v => v = (.pointer (some ⟨M, 0, none⟩) : Value)) (.pointer (some ⟨M, 0, none⟩)) (by go_simp) rfl hK)
        · intro a w' K hk hdep hfr hK
          have f := hfr 9 (by decide)
          exact plan_do (by rfl) (plan_yield (i := 4) (V := fun _ _ v => v = (.pointer (some ⟨B3, 4, none⟩) : Value)) (.pointer (some ⟨B3, 4, none⟩)) (by go_simp) rfl hK)
        · intro a w' K hk hdep hfr hK
          have e108 : a.tmps[108]?.getD undef = (.pointer (some ⟨B3, 4, none⟩)) := hdep 4 (by decide) 108 rfl
          have cl := HCL.out w' hk
          exact plan_do (by rfl) (plan_yield (i := 5) (V := fun _ _ v => v = (.slice x.fa x.fs.length x.fc : Value)) (.slice x.fa x.fs.length x.fc) (by go_simp) rfl hK)
        · intro a w' K hk hdep hfr hK
          have e107 : a.tmps[107]?.getD undef = (.pointer (some ⟨M, 0, none⟩)) := hdep 3 (by decide) 107 rfl
          have e109 : a.tmps[109]?.getD undef = (.slice x.fa x.fs.length x.fc) := hdep 5 (by decide) 109 rfl
          refine plan_do (by rfl) (plan_call 19 #[.pointer (some ⟨M, 0, none⟩), .slice x.fa x.fs.length x.fc] (by go_simp) ?_)
          exact (rk_crash w' G M s x.fa x.fs.length x.fc x.fs (HP6.out.rk.same hk) rfl (HFO.out.same hk) HFW.out HOO.out).mono fun e w2 ⟨X, FX, he, hx, hk2, hg⟩ => ⟨_, he, hK _ _ hk2 ⟨X, FX, rfl, hx, fun k e => by have := hg k e; have := hk.size; omega⟩⟩
        · intro a w' K hk hdep hfr hK
          have e104 : a.tmps[104]?.getD undef = (.pointer (some ⟨D, 0, none⟩)) := hdep 0 (by decide) 104 rfl
          have e105 : a.tmps[105]?.getD undef = (.slice (some fa2) x.fs.length fc2) := hdep 1 (by decide) 105 rfl
          have r : DcrP s x.fs w6.heap.size w' (a.tmps[106]?.getD undef) := hdep 2 (by decide) 106 rfl
          exact plan_do (by rfl) (plan_yield (i := 7) (V := fun _ w v => DcrP s x.fs w6.heap.size w v) (a.tmps[106]?.getD undef) (by go_simp) r hK)
        · intro a w' K hk hdep hfr hK
          have e104 : a.tmps[104]?.getD undef = (.pointer (some ⟨D, 0, none⟩)) := hdep 0 (by decide) 104 rfl
          have e105 : a.tmps[105]?.getD undef = (.slice (some fa2) x.fs.length fc2) := hdep 1 (by decide) 105 rfl
          have e107 : a.tmps[107]?.getD undef = (.pointer (some ⟨M, 0, none⟩)) := hdep 3 (by decide) 107 rfl
          have e108 : a.tmps[108]?.getD undef = (.pointer (some ⟨B3, 4, none⟩)) := hdep 4 (by decide) 108 rfl
          have e109 : a.tmps[109]?.getD undef = (.slice x.fa x.fs.length x.fc) := hdep 5 (by decide) 109 rfl
          have r : RcrP s x.fs w6.heap.size w' (a.tmps[110]?.getD undef) := hdep 6 (by decide) 110 rfl
          exact plan_do (by rfl) (plan_yield (i := 8) (V := fun _ w v => RcrP s x.fs w6.heap.size w v) (a.tmps[110]?.getD undef) (by go_simp) r hK)
      intro a w7 hk7 hdef hsz hv hfr _
      obtain ⟨X, FX, e12, hx, hxg⟩ : DcrP s x.fs w6.heap.size w7 (a.tmps[12]?.getD undef) := hv 7 12 (by omega) rfl
      obtain ⟨Y, GY, e13, hy, hyg⟩ : RcrP s x.fs w6.heap.size w7 (a.tmps[13]?.getD undef) := hv 8 13 (by omega) rfl
      have he := act_eq a _ [some 104, some 105, some 106, some 107, some 108, some 109, some 110, some 12, some 13] 134 rfl hsz hdef hfr (fun d => a.tmps[d]?.getD undef) (fun _ _ => rfl)
      obtain ⟨v104, h104⟩ : ∃ v, a.tmps[104]?.getD undef = v := ⟨_, rfl⟩
      obtain ⟨v105, h105⟩ : ∃ v, a.tmps[105]?.getD undef = v := ⟨_, rfl⟩
      obtain ⟨v106, h106⟩ : ∃ v, a.tmps[106]?.getD undef = v := ⟨_, rfl⟩
      obtain ⟨v107, h107⟩ : ∃ v, a.tmps[107]?.getD undef = v := ⟨_, rfl⟩
      obtain ⟨v108, h108⟩ : ∃ v, a.tmps[108]?.getD undef = v := ⟨_, rfl⟩
      obtain ⟨v109, h109⟩ : ∃ v, a.tmps[109]?.getD undef = v := ⟨_, rfl⟩
      obtain ⟨v110, h110⟩ : ∃ v, a.tmps[110]?.getD undef = v := ⟨_, rfl⟩
      simp only [putAll, h104, h105, h106, h107, h108, h109, h110, e12, e13, List.setIfInBounds_toArray, List.set_cons_zero, List.set_cons_succ] at he
      clear h104 h105 h106 h107 h108 h109 h110 e12 e13 hdef hsz hv hfr
      subst he
      have HP7 : Hid (PlI w w7 F G D M s) := Lib.hid (HP6.out.keep hk7)
      have HX7 : Hid (PlI w w7 FX GY X Y (s.crashed x.fs)) := Lib.hid ⟨hx, hy, (HP6.out.keep hk7).same, fun k e => by have := hxg k e; have := HP6.out.same.size; omega, fun k e => by have := hyg k e; have := HP6.out.same.size; omega, dk_rk_apart hx hy, by show 0 < (List.foldl fated s.L _).length; rw [folded_len]; exact HP6.out.pos⟩
      have d4 := HCL.out w7 hk7
      have HCL7 : Hid (∀ w', Same w7 w' → w'.cell? ⟨B3, 4, none⟩ = some (.slice x.fa x.fs.length x.fc)) := Lib.hid (fun w' k => HCL.out w' (hk7.trans k (fun _ _ e => e)))
      clear hk7 hx hy hxg hyg d0 d1
      go_wp2_with fail
      (refine (same_ok w7 F G D M s HP7.out.dk HP7.out.rk HOO.out).mono ?_); rintro e w8 ⟨rfl, hk⟩
      have d4 := HCL7.out w8 hk
      have HX8 := Lib.hid (HX7.out.keep hk)
      clear hk
      go_wp2_with fail
      (refine (same_ok w8 FX GY X Y _ HX8.out.dk HX8.out.rk (by show ([] : List (Nat × List UInt8)).length ≤ 100000; decide)).mono ?_); rintro e w9 ⟨rfl, hk⟩
      have HX9 := Lib.hid (HX8.out.keep hk)
      clear hk d4
      go_wp2
      go_roundw
      case rel => exact ⟨j + 1, X, Y, FX, GY, _, by omega, by go_num, rfl, rfl, HX9.out, Nat.zero_le _⟩
      case measure => simp [intOf]; omega
    · have q0 : (z == 0) = false := by simpa using z0
      have q1 : (z == 1) = false := by simpa using z1
      have q2 : (z == 2) = false := by simpa using z2
      obtain ⟨ac, hac⟩ : ∃ ac, s.acode x.at' B.length = ac := ⟨_, rfl⟩
      have HAC := Lib.hid hac
      have HLF := Lib.hid HP5.out.dk.lft
      have HSX : Hid (∀ k, F k ∨ G k → k < w5.heap.size) := Lib.hid (fun k e => by
        rcases e with e | e
        · exact HP5.out.dk.lt k e
        · exact HP5.out.rk.lt k e)
      have HCL : Hid (∀ w', Keeps (fun k => F k ∨ G k) w5 w' → w'.cell? ⟨B3, 1, none⟩ = some (.int .i64 x.at')) := Lib.hid (fun w' k => (cell_of_five (HOB5.out.keep k (fun e => by
        rcases e with e | e
        · exact HFB.out.1 e
        · exact HFB.out.2 e))).2.1)
      have HE0 : Hid (PlE F G D M s s x.at' B gb cb w5.heap.size 0 w5) := Lib.hid ⟨HP5.out.dk, HP5.out.rk, HRB.out, HGB.out.1, HGB.out.2.1⟩
      clear hac
      go_wp2_with fail
      refine wp_region_tail [[], [], [1], [], [0, 2, 3], [], [], [6], [], [5, 7, 8, 4], [4, 9]]
        [some 68, some 69, some 70, some 71, some 72, some 73, some 74, some 75, some 76, some 77, some 78]
        [.is (.pointer (some ⟨D, 0, none⟩)), .is (.pointer (some ⟨B3, 1, none⟩)), .is (.int .i64 x.at'), .is (.slice (some ⟨gb, 0, none⟩) B.length cb), .is (.int .i64 ac), .is (.pointer (some ⟨M, 0, none⟩)), .is (.pointer (some ⟨B3, 1, none⟩)), .is (.int .i64 x.at'), .is (.slice (some ⟨gb, 0, none⟩) B.length cb), .is (.int .i64 ac)]
        (fun k => F k ∨ G k) [4, 9] (PlE F G D M s s x.at' B gb cb w5.heap.size) 14 _ _ 134 10 11 (by kernel_rfl) (by rfl) (by rfl) (by omega) (by kernel_rfl) (by kernel_rfl) (by decide) (by decide) HSX.out HE0.out PlE.same ?_ ?_
      · refine ⟨?_, ?_, ?_, ?_, ?_, ?_, ?_, ?_, ?_, ?_, trivial⟩
        · intro a w' K hk hdep hfr hK
          have f := hfr 5 (by decide)
          exact plan_do (by rfl) (plan_yield (i := 0) (V := fun _ _ v => v = (.pointer (some ⟨D, 0, none⟩) : Value)) (.pointer (some ⟨D, 0, none⟩)) (by go_simp) rfl hK)
        · intro a w' K hk hdep hfr hK
          have f := hfr 9 (by decide)
          exact plan_do (by rfl) (plan_yield (i := 1) (V := fun _ _ v => v = (.pointer (some ⟨B3, 1, none⟩) : Value)) (.pointer (some ⟨B3, 1, none⟩)) (by go_simp) rfl hK)
        · intro a w' K hk hdep hfr hK
          have e69 : a.tmps[69]?.getD undef = (.pointer (some ⟨B3, 1, none⟩)) := hdep 1 (by decide) 69 rfl
          have cl := HCL.out w' hk
          exact plan_do (by rfl) (plan_yield (i := 2) (V := fun _ _ v => v = (.int .i64 x.at' : Value)) (.int .i64 x.at') (by go_simp) rfl hK)
        · intro a w' K hk hdep hfr hK
          have f := hfr 10 (by decide)
          exact plan_do (by rfl) (plan_yield (i := 3) (V := fun _ _ v => v = (.slice (some ⟨gb, 0, none⟩) B.length cb : Value)) (.slice (some ⟨gb, 0, none⟩) B.length cb) (by go_simp) rfl hK)
        · intro a w' K hk hdep hfr hE hK
          have e68 : a.tmps[68]?.getD undef = (.pointer (some ⟨D, 0, none⟩)) := hdep 0 (by decide) 68 rfl
          have e70 : a.tmps[70]?.getD undef = (.int .i64 x.at') := hdep 2 (by decide) 70 rfl
          have e71 : a.tmps[71]?.getD undef = (.slice (some ⟨gb, 0, none⟩) B.length cb) := hdep 3 (by decide) 71 rfl
          obtain ⟨h1, h2, h3, h4⟩ : PlE F G D M s s x.at' B gb cb w5.heap.size 0 w' := hE
          refine plan_do (by rfl) (plan_call 21 #[.pointer (some ⟨D, 0, none⟩), .int .i64 x.at', .slice (some ⟨gb, 0, none⟩) B.length cb] (by go_simp) ?_)
          refine (dk_awrite w' F D s x.at' gb B.length cb B h1 (own_range h3) rfl h4.1 HOO.out).mono fun e w2 ⟨F1, he, hd, hk2, hg⟩ => ⟨_, by rw [he, HAC.out], hK _ _ (hk2.mono (fun _ _ e => .inl e)) ?_ rfl⟩
          exact ⟨F1, hd, h2.keep hk2 (fun k e e2 => dk_rk_apart h1 h2 k e2 e), own_keeps hk2 h3 (fun q e e2 => by cases e; exact h4.1 e2), fun e => by
            rcases hg _ e with e | e
            · exact h4.1 e
            · have := (h3.lt gb rfl).2; omega, h4.2, fun k e => by
            rcases hg k e with e | e
            · exact .inl e
            · right; have := hk.size; omega⟩
        · intro a w' K hk hdep hfr hK
          have f := hfr 7 (by decide)
          exact plan_do (by rfl) (plan_yield (i := 5) (V := fun _ _ v => v = (.pointer (some ⟨M, 0, none⟩) : Value)) (.pointer (some ⟨M, 0, none⟩)) (by go_simp) rfl hK)
        · intro a w' K hk hdep hfr hK
          have f := hfr 9 (by decide)
          exact plan_do (by rfl) (plan_yield (i := 6) (V := fun _ _ v => v = (.pointer (some ⟨B3, 1, none⟩) : Value)) (.pointer (some ⟨B3, 1, none⟩)) (by go_simp) rfl hK)
        · intro a w' K hk hdep hfr hK
          have e74 : a.tmps[74]?.getD undef = (.pointer (some ⟨B3, 1, none⟩)) := hdep 6 (by decide) 74 rfl
          have cl := HCL.out w' hk
          exact plan_do (by rfl) (plan_yield (i := 7) (V := fun _ _ v => v = (.int .i64 x.at' : Value)) (.int .i64 x.at') (by go_simp) rfl hK)
        · intro a w' K hk hdep hfr hK
          have f := hfr 10 (by decide)
          exact plan_do (by rfl) (plan_yield (i := 8) (V := fun _ _ v => v = (.slice (some ⟨gb, 0, none⟩) B.length cb : Value)) (.slice (some ⟨gb, 0, none⟩) B.length cb) (by go_simp) rfl hK)
        · intro a w' K hk hdep hfr hE hK
          have e73 : a.tmps[73]?.getD undef = (.pointer (some ⟨M, 0, none⟩)) := hdep 5 (by decide) 73 rfl
          have e75 : a.tmps[75]?.getD undef = (.int .i64 x.at') := hdep 7 (by decide) 75 rfl
          have e76 : a.tmps[76]?.getD undef = (.slice (some ⟨gb, 0, none⟩) B.length cb) := hdep 8 (by decide) 76 rfl
          have e72 : a.tmps[72]?.getD undef = (.int .i64 ac) := hdep 4 (by decide) 72 rfl
          obtain ⟨F1, h1, h2, h3, h4, h5, h6⟩ : PlE F G D M s s x.at' B gb cb w5.heap.size 1 w' := hE
          refine plan_do (by rfl) (plan_call 22 #[.pointer (some ⟨M, 0, none⟩), .int .i64 x.at', .slice (some ⟨gb, 0, none⟩) B.length cb] (by go_simp) ?_)
          refine (rk_awrite w' G M s x.at' gb B.length cb B h2 HLF.out (Bytes.of_own h3) rfl h5 HOO.out).mono fun e w2 ⟨G1, he, hr, hk2, hg⟩ => ⟨_, by rw [he, HAC.out], hK _ _ (hk2.mono (fun _ _ e => .inr e)) ?_ rfl⟩
          exact ⟨F1, G1, h1.keep hk2 (fun k e e2 => dk_rk_apart h1 h2 k e e2), hr, own_keeps hk2 h3 (fun q e e2 => by cases e; exact h5 e2), h4, fun e => by
            rcases hg _ e with e | e
            · exact h5 e
            · have := (h3.lt gb rfl).2; omega, h6, fun k e => by
            rcases hg k e with e | e
            · exact .inl e
            · right; have := hk.size; omega⟩
      intro a w7 hk7 hdef hsz hv hfr hE2
      have e72 : a.tmps[72]?.getD undef = .int .i64 ac := hv 4 72 (by omega) rfl
      have e77 : a.tmps[77]?.getD undef = .int .i64 ac := hv 9 77 (by omega) rfl
      have he := act_eq a _ [some 68, some 69, some 70, some 71, some 72, some 73, some 74, some 75, some 76, some 77, some 78] 134 rfl hsz hdef hfr (fun d => a.tmps[d]?.getD undef) (fun _ _ => rfl)
      obtain ⟨v68, h68⟩ : ∃ v, a.tmps[68]?.getD undef = v := ⟨_, rfl⟩
      obtain ⟨v69, h69⟩ : ∃ v, a.tmps[69]?.getD undef = v := ⟨_, rfl⟩
      obtain ⟨v70, h70⟩ : ∃ v, a.tmps[70]?.getD undef = v := ⟨_, rfl⟩
      obtain ⟨v71, h71⟩ : ∃ v, a.tmps[71]?.getD undef = v := ⟨_, rfl⟩
      obtain ⟨v73, h73⟩ : ∃ v, a.tmps[73]?.getD undef = v := ⟨_, rfl⟩
      obtain ⟨v74, h74⟩ : ∃ v, a.tmps[74]?.getD undef = v := ⟨_, rfl⟩
      obtain ⟨v75, h75⟩ : ∃ v, a.tmps[75]?.getD undef = v := ⟨_, rfl⟩
      obtain ⟨v76, h76⟩ : ∃ v, a.tmps[76]?.getD undef = v := ⟨_, rfl⟩
      obtain ⟨v78, h78⟩ : ∃ v, a.tmps[78]?.getD undef = v := ⟨_, rfl⟩
      simp only [putAll, h68, h69, h70, h71, h73, h74, h75, h76, h78, e72, e77, List.setIfInBounds_toArray, List.set_cons_zero, List.set_cons_succ] at he
      clear h68 h69 h70 h71 h73 h74 h75 h76 h78 e72 e77 hdef hsz hv hfr
      subst he
      obtain ⟨F7, G7, hd7, hr7, ho7, hf7, hg7⟩ : ∃ F1 G1, Dk F1 w7 D (s.awrote x.at' B) ∧ Rk G1 w7 M (s.awrote x.at' B) ∧ w7.ownsRow 0 5 1 (.slice (some ⟨gb, 0, none⟩) B.length cb) B.length (u8s B) ∧ ¬ F1 gb ∧ ¬ G1 gb ∧ (∀ k, F1 k → F k ∨ w5.heap.size ≤ k) ∧ ∀ k, G1 k → G k ∨ w5.heap.size ≤ k := hE2
      have hs7 : Same w w7 := HP5.out.same.trans hk7 (fun q hq e => by
        rcases e with e | e
        · have := HP5.out.fw q e; omega
        · have := HP5.out.gw q e; omega)
      have hsz5 := HP5.out.same.size
      have HS7 := Lib.hid hs7
      have HD7 := Lib.hid hd7
      have HR7 := Lib.hid hr7
      have HO7 := Lib.hid ho7
      have HF7 := Lib.hid hf7
      have HG7 := Lib.hid hg7
      clear hk7 hd7 hr7 ho7 hf7 hs7 hsz5
      go_wp2_with fail
      (refine (spoil_any w7 0 (.slice (some ⟨gb, 0, none⟩) B.length cb) B HO7.out (by have := HBL.out; omega)).mono ?_); rintro e w8 ⟨⟨_, rfl⟩, hk8⟩
      have HP8 : Hid (PlI w w8 F7 G7 D M (s.awrote x.at' B)) := Lib.hid (by
        have hsz5 := HP5.out.same.size
        have hd8 := HD7.out.keep hk8 (fun k e e2 => HF7.out (by cases e2; exact e))
        have hr8 := HR7.out.keep hk8 (fun k e e2 => HG7.out.1 (by cases e2; exact e))
        refine ⟨hd8, hr8, HS7.out.trans hk8 (fun q hq e => by obtain rfl : gb = q := (by cases e; rfl); have := HGB.out.2.2; omega), fun k e => ?_, fun k e => ?_, dk_rk_apart hd8 hr8, by rw [(awrote_len _ _ _).1]; exact HP5.out.pos⟩
        · rcases HG7.out.2.1 k e with e | e
          · exact HP5.out.fw k e
          · omega
        · rcases HG7.out.2.2 k e with e | e
          · exact HP5.out.gw k e
          · omega)
      have HOX : Hid ((s.awrote x.at' B).O.length ≤ j + 1) := Lib.hid (by have := (awrote_len s x.at' B).2; have := HOL.out; omega)
      clear hk8
      go_wp2_with fail
      (refine (same_ok w8 F7 G7 D M _ HP8.out.dk HP8.out.rk (by have := HOX.out; omega)).mono ?_); rintro e w9 ⟨rfl, hk⟩
      have HP9 := Lib.hid (HP8.out.keep hk)
      clear hk d0 d1 d4
      go_wp2
      go_roundw
      case rel => exact ⟨j + 1, D, M, F7, G7, _, by omega, by go_num, rfl, rfl, HP9.out, HOX.out⟩
      case measure => simp [intOf]; omega
end Go.Proofs.Ytoimhniijeafaaa
