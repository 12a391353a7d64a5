/- What node.Write does. -/
import Derived.Test.YtdeajjppmgfemaaNd3
import Derived.Test.YtdeajjppmgfemaaPenW
import Derived.Laws.Tables
namespace Go.Proofs.Ytdeajjppmgfemaa
open Go.RowKit
set_option linter.unusedVariables false

theorem text_v {w0 wr w1 : World} (B : Nat) (bs more : List UInt8) (ao : Option Addr) (n c : Nat) (h : PenW w0 wr B bs) (k : Same wr w1) (hx : Bytes w0 (.slice ao n c) more) (hm : more.length ≤ 65535) (hl : bs.length + more.length + 8 ≤ 140737488351232) :
    Calls Try.prog 19 #[.pointer (some ⟨B, 0, none⟩), .slice ao n c] w1 fun e w' => e = .returned (.int .i64 0) ∧ PenW w0 w' B (bs ++ (be more.length 2 ++ more)) ∧ ∀ V, wr.heap.size ≤ V → V < w1.heap.size → w'.heap[V]? = w1.heap[V]? := by
  obtain ⟨base, row, hp⟩ := h.ex
  have hn := h.new
  have hp1 := hp.keeps k (fun e => e) (fun _ _ e => e)
  have hs1 : Same w0 w1 := h.same.trans k (fun _ _ e => e)
  refine (text_ok B base row bs more _ w1 hp1 (hx.same hs1) hm (fun a m d e h0 => ?_) hl).mono fun e w' ⟨he, hs⟩ => ⟨he, PenW.step hp1 hs1 hn hs, fun V h1 h2 => ?_⟩
  · rw [e] at hx
    have hlt := hx.lt h0
    refine ⟨by omega, fun e => ?_⟩
    have := (hp.row_lt _ e).1
    have := hp.lt
    omega
  · obtain ⟨row', _, hk', _⟩ := hs.ex
    exact hk'.block V h2 (notPen (by have := hp.lt; have := hp.hb; omega) (fun e => by have := (hp.row_lt V e).2; omega))

/-- What Write of a node answers. -/
def WPost (w : World) (lv : Int) (ps ks : List (List UInt8 × List UInt8)) (e : Ending) (w' : World) : Prop :=
  Same w w' ∧ ∃ v b er, e = .returned (.tuple #[v, .int .i64 er]) ∧ Reads w' v b ∧ (∀ a n c, v = .slice (some a) n c → w.heap.size ≤ a.block) ∧
    ((NRight lv ps ks ∧ (nodeB lv.toNat ps ks).length ≤ 470 ∧ b = nodeB lv.toNat ps ks ∧ er = 0) ∨ (NRight lv ps ks ∧ 470 < (nodeB lv.toNat ps ks).length ∧ b = [] ∧ er = 23) ∨ (¬ NRight lv ps ks ∧ b = [] ∧ er = 1))
theorem WPost.no {w w' : World} {lv : Int} {ps ks : List (List UInt8 × List UInt8)} (k : Same w w') (h : ¬ NRight lv ps ks) : WPost w lv ps ks (.returned (.tuple #[.slice none 0 0, .int .i64 1])) w' :=
  ⟨k, _, [], 1, rfl, Reads.nil _ _ _, fun a n c e => by simp at e, .inr (.inr ⟨h, rfl, rfl⟩)⟩
theorem WPost.long {w w' : World} {lv : Int} {ps ks : List (List UInt8 × List UInt8)} (k : Same w w') (h : NRight lv ps ks) (hl : 470 < (nodeB lv.toNat ps ks).length) : WPost w lv ps ks (.returned (.tuple #[.slice none 0 0, .int .i64 23])) w' :=
  ⟨k, _, [], 23, rfl, Reads.nil _ _ _, fun a n c e => by simp at e, .inr (.inl ⟨h, hl, rfl, rfl⟩)⟩
theorem WPost.yes {w w1 w' : World} {lv : Int} {ps ks : List (List UInt8 × List UInt8)} {v : Value} (k : Same w w1) (k2 : Same w1 w') (h : NRight lv ps ks) (hl : (nodeB lv.toNat ps ks).length ≤ 470) (ho : w'.ownsRow w1.heap.size 5 1 v (nodeB lv.toNat ps ks).length (u8s (nodeB lv.toNat ps ks))) : WPost w lv ps ks (.returned (.tuple #[v, .int .i64 0])) w' :=
  ⟨k.trans k2 (fun _ _ e => e), v, _, 0, rfl, Reads.of_own ho rfl, fun a n c e => by have := (ho.lt a.block (by rw [e]; rfl)).1; have := k.size; omega, .inl ⟨h, hl, rfl, rfl⟩⟩
theorem flatP_len (ps : List PairX) : ((kvs ps).flatMap codecP.enc).length = psum ps := by
  induction ps with
  | nil => rfl
  | cons p r ih =>
    have e : kvs (p :: r) = (p.ks, p.vs) :: kvs r := rfl
    rw [e, List.flatMap_cons, List.length_append, ih, encP_len]
    simp [psum, psize]
theorem flatP_take (ps : List PairX) (j : Nat) : (((kvs ps).take j).flatMap codecP.enc).length ≤ psum ps := by
  rw [← flatP_len]; exact flat_take_le _ _ _
theorem flatK_take (ks : List KidX) (hl : ks.length ≤ 4) (hh : ∀ k ∈ ks, k.hs.length = 32 ∧ k.fs.length ≤ 1000000) (j : Nat) : (((kks ks).take j).flatMap codecK.enc).length ≤ 4000136 := by
  refine Nat.le_trans (flat_take_le _ _ _) ?_
  have key : ∀ l : List KidX, (∀ k ∈ l, k.hs.length = 32 ∧ k.fs.length ≤ 1000000) → ((kks l).flatMap codecK.enc).length ≤ l.length * 1000034 := by
    intro l
    induction l with
    | nil => intro _; simp [kks]
    | cons k r ih =>
      intro h
      have e : kks (k :: r) = (k.fs, k.hs) :: kks r := rfl
      have h1 := h k (by simp)
      have h2 := ih (fun k hk => h k (by simp [hk]))
      rw [e, List.flatMap_cons, List.length_append, encK_len, List.length_cons]
      simp only
      omega
  have := key ks hh
  omega
theorem long_pair {lv : Nat} {ps : List PairX} {ks : List (List UInt8 × List UInt8)} {j : Nat} (hj : j < ps.length) (h : 65535 < ps[j].ks.length ∨ 65535 < ps[j].vs.length) : 470 < (nodeB lv (kvs ps) ks).length := by
  have h1 := flat_mem_le codecP.enc (kvs ps) (ps[j].ks, ps[j].vs) (by simp only [kvs, List.mem_map]; exact ⟨_, List.getElem_mem hj, rfl⟩)
  rw [encP_len] at h1
  rw [nodeB_len]
  simp only at h1
  omega
theorem long_kid {lv : Nat} {ps : List (List UInt8 × List UInt8)} {ks : List KidX} {j : Nat} (hj : j < ks.length) (h : 65535 < ks[j].fs.length) : 470 < (nodeB lv ps (kks ks)).length := by
  have h1 := flat_mem_le codecK.enc (kks ks) (ks[j].fs, ks[j].hs) (by simp only [kks, List.mem_map]; exact ⟨_, List.getElem_mem hj, rfl⟩)
  rw [encK_len] at h1
  rw [nodeB_len]
  simp only at h1
  omega
def kid0 : List Value := .slice none 0 0 :: u8s (List.replicate 32 0)
theorem Try.zeroKid (w : World) : (zeroValue 46).run Try.prog w = .ok (.agg kid0.toArray) w := by kernel_rfl
theorem kid0_length : kid0.length = 33 := by simp [kid0, u8s_length]
theorem kid_all (k : KidX) (ao : Option Addr) (n c : Nat) (h : k.fv = .slice ao n c) : k.cells.toArray.all (·.oneCell') = true := by
  simp only [KidX.cells, h, List.all_toArray, List.all_cons, Bool.and_eq_true]
  refine ⟨rfl, ?_⟩
  rw [List.all_eq_true]
  exact u8s_cell _
def hdB (lv n : Nat) : List UInt8 := be 84 1 ++ (be lv 1 ++ be n 1)
theorem hdB_len (lv n : Nat) : (hdB lv n).length = 3 := by simp [hdB, be_length]
theorem nodeB_hd (lv : Nat) (ps ks : List (List UInt8 × List UInt8)) : nodeB lv ps ks = hdB lv (ps.length + ks.length) ++ (ps.flatMap codecP.enc ++ ks.flatMap codecK.enc) := by simp [nodeB, hdB]

set_option maxRecDepth 100000 in
set_option maxHeartbeats 6400000 in
theorem nodeWrite_no (lv : Int) (po ko : Option Addr) (pn pc kn kc : Nat) (ps : List PairX) (ks : List KidX) (w : World) (h : NodeAt w po ko ps ks pc kc) (hp : ps.length = pn) (hk : ks.length = kn) (hpl : pn ≤ 1000000) (hkl : kn ≤ 1000000) (hno : ¬ NRight lv (kvs ps) (kks ks)) :
    Calls Try.prog 10 #[nodeV lv po pn pc ko kn kc] w (WPost w lv (kvs ps) (kks ks)) := by
  have hs0 : Same w (w.alloc (.cells #[.int .i64 lv, .slice po pn pc, .slice ko kn kc] 25)) := (Keeps.refl _ _).alloc _
  have HS0 := Lib.hid hs0
  have HPL : Hid (ps.length = pn) := Lib.hid hp
  have HKL : Hid (ks.length = kn) := Lib.hid hk
  have HH := Lib.hid h
  have HNO := Lib.hid hno
  clear hp hk h hs0 hno
  go_enter Try.func10, Try.ntmps10
  go_wp2_with fail
  ((with_reducible refine (nright_any lv po ko pn pc kn kc ps ks _ (HH.out.same HS0.out) HPL.out HKL.out hpl hkl).mono ?_); rintro e w2 ⟨b, rfl, hk2, hb⟩)
  obtain rfl : b = false := by
    cases b with
    | false => rfl
    | true => exact absurd (hb.1 rfl) HNO.out
  have HK := Lib.hid (HS0.out.trans hk2 (fun _ _ e => e))
  clear hk2 hb
  go_wp2
  go_ret2
  exact WPost.no HK.out HNO.out

set_option maxRecDepth 100000 in
set_option maxHeartbeats 12800000 in
theorem nodeWrite_leaf (po ko : Option Addr) (pn pc kc : Nat) (ps : List PairX) (ks : List KidX) (w : World) (h : NodeAt w po ko ps ks pc kc) (hp : ps.length = pn) (hk : ks.length = 0) (hps : psum ps ≤ 1000000) (hr : NRight 0 (kvs ps) (kks ks)) :
    Calls Try.prog 10 #[nodeV 0 po pn pc ko 0 kc] w (WPost w 0 (kvs ps) (kks ks)) := by
  have hpl : pn ≤ 255 := by have := (hr.2.1 rfl).2.1; rw [kvs_length, hp] at this; exact this
  have hks : kks ks = [] := (hr.2.1 rfl).1
  have hs0 : Same w (w.alloc (.cells #[.int .i64 0, .slice po pn pc, .slice ko 0 kc] 25)) := (Keeps.refl _ _).alloc _
  have hB : Whole (w.alloc (.cells #[.int .i64 0, .slice po pn pc, .slice ko 0 kc] 25)) w.heap.size 25 [.int .i64 0, .slice po pn pc, .slice ko 0 kc] := heap_alloc_new w _
  have HS0 := Lib.hid hs0
  have HB := Lib.hid hB
  have HPL : Hid (ps.length = pn) := Lib.hid hp
  have HKL : Hid (ks.length = 0) := Lib.hid hk
  have HH := Lib.hid h
  have HR := Lib.hid hr
  have HKS := Lib.hid hks
  have HPS := Lib.hid hps
  clear hp hk h hs0 hr hks hps hB
  have u1 : IntKind.u64.wrap (pn : Int) = pn := u64_wrap_in _ (by omega) (by omega)
  go_enter Try.func10, Try.ntmps10
  go_wp2_with fail
  ((with_reducible refine (nright_any 0 po ko pn pc 0 kc ps ks _ (HH.out.same HS0.out) HPL.out HKL.out (by omega) (by omega)).mono ?_); rintro e w2 ⟨b, rfl, hk2, hb⟩)
  obtain rfl : b = true := hb.2 HR.out
  have HK := Lib.hid (HS0.out.trans hk2 (fun _ _ e => e))
  have HB2 := Lib.hid (HB.out.keep hk2 (fun e => e))
  have HN2 := Lib.hid ((HH.out.same HS0.out).same hk2)
  have HP0 := Lib.hid (PenW.mk' w2)
  clear hk2 hb
  go_wp2_with fail
  ((with_reducible refine (uint_w w2.heap.size [] 84 1 _ _ _ HP0.out (by simp) (by omega) (by omega) (by omega) (by omega) (by omega)).mono ?_); rintro e w3 ⟨rfl, hp3⟩)
  have HP3 := Lib.hid hp3
  have c3 := (HB2.out.keep HP3.out.same (fun e => e)).cell (i := 0) rfl
  clear hp3
  go_wp2_with fail
  ((with_reducible refine (uint_w w2.heap.size _ 0 1 _ _ _ HP3.out (by simp [be_length]) (by omega) (by omega) (by omega) (by omega) (by omega)).mono ?_); rintro e w4 ⟨rfl, hp4⟩)
  have HP4 := Lib.hid hp4
  have c4 := (HB2.out.keep HP4.out.same (fun e => e)).cell (i := 0) rfl
  have d4 := (HB2.out.keep HP4.out.same (fun e => e)).cell (i := 1) rfl
  clear hp4 c3
  go_wp2_with fail
  ((with_reducible refine (uint_w w2.heap.size _ pn 1 _ _ _ HP4.out (by simp [be_length]) (by omega) (by omega) (by omega) (by omega) (by omega)).mono ?_); rintro e w5 ⟨rfl, hp5⟩)
  have HP5 : Hid (PenW w2 w5 w2.heap.size (hdB 0 pn ++ ((kvs ps).take 0).flatMap codecP.enc)) := Lib.hid (by
    have e : hdB 0 pn ++ ((kvs ps).take 0).flatMap codecP.enc = [] ++ be 84 1 ++ be 0 1 ++ be pn 1 := by simp [hdB]
    rw [e]; exact hp5)
  have d5 := (HB2.out.keep hp5.same (fun e => e)).cell (i := 1) rfl
  clear hp5 c4 d4
  go_wp2
  go_loopw [40] (fun i wr => ∃ j : Nat, j ≤ pn ∧ i = .int .i64 j ∧ PenW w2 wr w2.heap.size (hdB 0 pn ++ ((kvs ps).take j).flatMap codecP.enc)) (fun i _ => pn - (intOf i).toNat)
  case atStart => exact ⟨0, by omega, rfl, HP5.out⟩
  case round =>
    obtain ⟨j, hj, rfl, hpr⟩ := hrel
    have HPR := Lib.hid hpr
    clear hpr HP5 HP4 HP3 HP0 d5
    by_cases hlt : j < pn
    · have hjl : j < ps.length := by have := HPL.out; omega
      obtain ⟨g, off, kO, kC, vO, vC, rfl, -, -, c0, c1, bk, bv⟩ := HN2.out.pairs.at hjl
      obtain ⟨c0, c1, -⟩ := pairS c0 c1 HPR.out.same
      have HLO : Hid (65535 < ps[j].ks.length ∨ 65535 < ps[j].vs.length → 470 < (nodeB (0 : Int).toNat (kvs ps) (kks ks)).length) := Lib.hid (fun h => long_pair hjl h)
      have HST : Hid (((kvs ps).take (j + 1)).flatMap codecP.enc = ((kvs ps).take j).flatMap codecP.enc ++ (be ps[j].ks.length 2 ++ ps[j].ks ++ (be ps[j].vs.length 2 ++ ps[j].vs))) := Lib.hid (by
        rw [flat_snoc _ _ _ (by rw [kvs_length]; exact hjl)]
        simp only [kvs, List.getElem_map]
        rfl)
      have HLN : Hid ((hdB 0 pn ++ ((kvs ps).take j).flatMap codecP.enc).length ≤ 1000003) := Lib.hid (by
        rw [List.length_append, hdB_len]
        have := flatP_take ps j
        have := HPS.out
        omega)
      have HBK := Lib.hid bk
      have HBV := Lib.hid bv
      have hkl : ps[j].ks.length ≤ 1000000 ∧ ps[j].vs.length ≤ 1000000 := by
        have h1 := psum_snoc ps j hjl
        have h2 := psum_take_le ps (j + 1)
        have h3 : psize ps[j] = 4 + ps[j].ks.length + ps[j].vs.length := rfl
        have := HPS.out
        omega
      generalize ps[j].ks = kk at *
      generalize ps[j].vs = vv at *
      have hjn : (j : Int) < (pn : Int) := by omega
      clear bk bv hjl
      by_cases hk1 : 65535 < kk.length
      · have HL := Lib.hid (HLO.out (.inl hk1))
        clear HLO
        go_wp2_with fail
        ((with_reducible refine (text_long _ kO kk.length kC _ hk1).mono ?_); rintro e w6 ⟨rfl, hw6⟩)
        subst hw6
        go_wp2
        go_ret2
        exact WPost.long (HK.out.trans (HPR.out.same.alloc _) (fun _ _ e => e)) HR.out HL.out
      go_wp2_with fail
      ((with_reducible refine (text_v w2.heap.size _ kk kO kk.length kC HPR.out ((Keeps.refl _ _).alloc _) HBK.out (by omega) (by have := HLN.out; omega)).mono ?_); rintro e w6 ⟨rfl, hp6, hv6⟩)
      have hc6 : Whole w6 wr.heap.size 54 [.slice kO kk.length kC, .slice vO vv.length vC] := (hv6 wr.heap.size (Nat.le_refl _) (by simp)).trans (heap_alloc_new wr _)
      have c6 := hc6.cell (i := 1) rfl
      have HP6 := Lib.hid hp6
      clear hp6 hv6 hc6
      by_cases hk2 : 65535 < vv.length
      · have HL := Lib.hid (HLO.out (.inr hk2))
        clear HLO
        go_wp2_with fail
        ((with_reducible refine (text_long _ vO vv.length vC _ hk2).mono ?_); rintro e w7 ⟨rfl, hw7⟩)
        subst hw7
        go_wp2
        go_ret2
        exact WPost.long (HK.out.trans HP6.out.same (fun _ _ e => e)) HR.out HL.out
      go_wp2_with fail
      ((with_reducible refine (text_w w2.heap.size _ vv vO vv.length vC _ HP6.out HBV.out (by omega) (by have h := HLN.out; simp only [List.length_append, be_length] at h ⊢; omega)).mono ?_); rintro e w7 ⟨rfl, hp7⟩)
      have HP7 : Hid (PenW w2 w7 w2.heap.size (hdB 0 pn ++ ((kvs ps).take (j + 1)).flatMap codecP.enc)) := Lib.hid (by rw [HST.out, ← List.append_assoc, ← List.append_assoc]; exact hp7)
      clear hp7 c6 HP6
      go_wp2
      go_roundw
      case rel => exact ⟨j + 1, by omega, by go_num, HP7.out⟩
      case measure => simp [intOf]; omega
    · obtain rfl : j = pn := by omega
      have d6 := (HB2.out.keep HPR.out.same (fun e => e)).cell (i := 2) rfl
      have hle := flatP_take ps j
      have hps := HPS.out
      have HNB : Hid (hdB 0 j ++ ((kvs ps).take j).flatMap codecP.enc = nodeB (0 : Int).toNat (kvs ps) (kks ks)) := Lib.hid (by
        rw [nodeB_hd, HKS.out, kvs_length, HPL.out, List.take_of_length_le (by rw [kvs_length, HPL.out]; exact Nat.le_refl _)]
        simp)
      have HLE : Hid ((nodeB (0 : Int).toNat (kvs ps) (kks ks)).length ≤ 1000003) := Lib.hid (by rw [← HNB.out, List.length_append, hdB_len]; omega)
      have HP8 : Hid (PenW w2 wr w2.heap.size (nodeB (0 : Int).toNat (kvs ps) (kks ks))) := Lib.hid (by rw [← HNB.out]; exact HPR.out)
      clear hle hps HPR
      go_wp2
      refine wp_loop_rounds 1 ?_
      rw [rounds_succ]
      go_wp2_with fail
      ((with_reducible refine (data_w w2.heap.size _ _ HP8.out (by have := HLE.out; omega)).mono ?_); rintro e w9 ⟨v, rfl, ho, hk9⟩)
      obtain ⟨vO, vC, rfl⟩ := (Bytes.of_own ho).form
      have HO := Lib.hid ho
      have HK9 := Lib.hid hk9
      have HK8 := Lib.hid (HK.out.trans HP8.out.same (fun _ _ e => e))
      clear ho hk9
      by_cases hl : (nodeB (0 : Int).toNat (kvs ps) (kks ks)).length ≤ 470
      · have HL := Lib.hid hl
        generalize hN : (nodeB (0 : Int).toNat (kvs ps) (kks ks)).length = n at *
        have hl2 : ¬ (470 : Int) < (n : Int) := by omega
        have HNN := Lib.hid hN
        clear hN hl
        go_wp2
        go_ret2
        exact WPost.yes HK8.out HK9.out HR.out (by rw [HNN.out]; exact HL.out) (by rw [HNN.out]; exact HO.out)
      · have HL := Lib.hid hl
        generalize hN : (nodeB (0 : Int).toNat (kvs ps) (kks ks)).length = n at *
        have hl2 : (470 : Int) < (n : Int) := by omega
        have HNN := Lib.hid hN
        clear hN hl
        go_wp2
        go_ret2
        exact WPost.long (HK8.out.trans HK9.out (fun _ _ e => e)) HR.out (by rw [HNN.out]; have := HL.out; omega)
end Go.Proofs.Ytdeajjppmgfemaa
