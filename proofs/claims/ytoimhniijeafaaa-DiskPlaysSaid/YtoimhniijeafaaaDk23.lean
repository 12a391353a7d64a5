/- The document's own Read of a sector. -/
import Derived.Test.YtoimhniijeafaaaDk22
import Derived.Test.YtoimhniijeafaaaFresh
namespace Go.Proofs.Ytoimhniijeafaaa
open Go.RowKit
set_option linter.unusedVariables false

def pick (m : Nat) (O : List (Nat × (Value × List UInt8))) (x : Value × List UInt8) : Value × List UInt8 := O.foldl (fun x o => if o.1 = m then o.2 else x) x
theorem pick_snd (m : Nat) : ∀ (O : List (Nat × (Value × List UInt8))) (x : Value × List UInt8), (pick m O x).2 = (O.map fun o => (o.1, o.2.2)).foldl (fun x o => if o.1 = m then o.2 else x) x.2
  | [], x => rfl
  | o :: r, x => by
    show (pick m r (if o.1 = m then o.2 else x)).2 = _
    rw [pick_snd m r]
    simp only [List.map_cons, List.foldl_cons]
    congr 1
    split <;> rfl
theorem pick_snoc (m : Nat) (O : List (Nat × (Value × List UInt8))) (x : Value × List UInt8) (j : Nat) (h : j < O.length) : pick m (O.take (j + 1)) x = if O[j].1 = m then O[j].2 else pick m (O.take j) x := by
  unfold pick
  rw [List.take_succ_eq_append_getElem h, List.foldl_append]
  rfl
theorem pick_ok {w : World} (m : Nat) : ∀ (O : List (Nat × (Value × List UInt8))) (x : Value × List UInt8), RRow w x → (∀ o ∈ O, RRow w o.2) → RRow w (pick m O x)
  | [], x, hx, _ => hx
  | o :: r, x, hx, hO => by
    refine pick_ok m r _ ?_ (fun q hq => hO q (List.mem_cons_of_mem _ hq))
    show RRow w (if o.1 = m then o.2 else x)
    split
    · exact hO o (List.mem_cons_self ..)
    · exact hx
theorem RRow.slice {w : World} {p : Value × List UInt8} (h : RRow w p) : ∃ g c, p.1 = .slice (some ⟨g, 0, none⟩) 512 c := by
  obtain ⟨g, c, e, _⟩ := h.1.form (by decide)
  exact ⟨g, c, e⟩
theorem own_nothing (w : World) (t : TypeId) : (w.alloc (.cells #[] t)).ownsRow w.heap.size t 1 (.slice (some ⟨w.heap.size, 0, none⟩) 0 0) 0 (u8s []) := own_empty w t

set_option maxRecDepth 100000 in
set_option maxHeartbeats 3200000 in
theorem rk_read (w : World) (F : Nat → Prop) (D : Nat) (s : DSt) (i : Int) (h : Rk F w D s) (hO : s.O.length ≤ 100000) :
    Calls Try.prog 31 #[.pointer (some ⟨D, 0, none⟩), .int .i64 i] w fun e w' => ∃ v, e = .returned (.tuple #[v, .int .i64 (s.rcode i)]) ∧ w'.ownsRow w.heap.size 5 1 v (s.seen i).length (u8s (s.seen i)) ∧ Same w w' := by
  obtain ⟨iu, hiu, hu0, hu1, hu2⟩ := info_parts Try.infoB8
  obtain ⟨lv, ov, L, O, h, rfl, e1, e2⟩ := h
  obtain ⟨c0, c1, c2, c3⟩ := cell_of_four' h.obj
  have hLl : s.L.length = L.length := by rw [← e1, List.length_map]
  have hOl : O.length ≤ 100000 := by rw [← e2, List.length_map] at hO; exact hO
  have H := Lib.hid h
  have HKA : Hid (Same w (w.alloc (.cells #[] 5))) := Lib.hid ((Keeps.refl _ _).alloc _)
  have HOE := Lib.hid (own_nothing w 5)
  by_cases hin : s.down = false ∧ 0 ≤ i ∧ i < (L.length : Int)
  · obtain ⟨hd, h0, hl⟩ := hin
    obtain ⟨m, rfl⟩ : ∃ m : Nat, i = (m : Int) := ⟨i.toNat, by omega⟩
    have hm : m < L.length := by omega
    have hr : s.rcode (m : Int) = 0 := by unfold DSt.rcode; rw [if_neg (by simp [hd]), if_pos (by omega)]
    have hs : s.seen (m : Int) = (pick m O L[m]).2 := by
      unfold DSt.seen
      rw [if_pos ⟨hd, h0, by omega⟩, pick_snd, e2]
      unfold seenAt
      congr 1
      rw [← e1, Int.toNat_natCast, List.getD_eq_getElem?_getD, List.getElem?_map, List.getElem?_eq_getElem hm]
      rfl
    have hP := pick_ok m O L[m] (h.rowL _ (List.getElem_mem hm)) (fun o ho => (h.rowO o ho).1)
    rw [hr, hs, hP.2]
    obtain ⟨gl, cl, rfl, _⟩ := h.las.form (by omega)
    obtain ⟨oo, oc, rfl, hoc, hof⟩ := h.opn.form
    have cm : w.cell? ⟨gl, m, none⟩ = some L[m].1 := by
      have h := h.las.cells (g := gl) rfl m L[m].1 (by simp [hm])
      have hadd : (⟨gl, 0, none⟩ : Addr).add m = ⟨gl, m, none⟩ := by unfold Addr.add; split <;> simp_all
      rwa [hadd] at h
    rw [hd] at c3
    have HP := Lib.hid hP
    have hmi : (m : Int) < (L.length : Int) := by omega
    have hge : ¬ (m : Int) ≥ (L.length : Int) := by omega
    have HSN := Lib.hid (pick_snoc m O L[m])
    have HT : Hid (pick m (O.take 0) L[m] = L[m]) := Lib.hid rfl
    have HTE : Hid (pick m (O.take O.length) L[m] = pick m O L[m]) := Lib.hid (by rw [List.take_length])
    generalize L[m] = xm at *
    obtain ⟨cv, hcv⟩ : ∃ cv, xm.1 = cv := ⟨_, rfl⟩
    rw [hcv] at cm
    have HCV := Lib.hid hcv
    clear h e1 e2 hd h0 hr hs hP hLl c2 hcv hO HOE HKA
    go_enter Try.func31, Try.ntmps31
    go_wp2
    go_loopw [6, 7] (fun v i wr => ∃ k : Nat, k ≤ O.length ∧ i = .int .i64 k ∧ v = (pick m (O.take k) xm).1 ∧ wr = w) (fun _ i _ => O.length - (intOf i).toNat)
    case atStart => exact ⟨0, by omega, rfl, by rw [HT.out, HCV.out], rfl⟩
    case round =>
      obtain ⟨k, hk, rfl, rfl, rfl⟩ := hrel
      by_cases hlt : k < O.length
      · have hlt2 : (k : Int) < (O.length : Int) := by omega
        obtain ⟨go, oc', hov, hra⟩ := H.out.opn.at (fun x _ => ocells_length x) k hlt
        simp only [Value.slice.injEq] at hov
        obtain ⟨rfl, _, rfl⟩ := hov
        have hsn := HSN.out k hlt
        generalize O[k] = x at *
        have d0 : wr.cell? ⟨go, k * 2, none⟩ = some (.int .i64 (x.1 : Int)) := hra 0 _ rfl
        have d1 : wr.cell? ⟨go, k * 2 + 1, none⟩ = some x.2.1 := hra 1 _ rfl
        have HS2 := Lib.hid hsn
        clear hra hsn
        by_cases hx : x.1 = m
        · have hx2 : (x.1 : Int) = (m : Int) := by omega
          have HSE : Hid (x.2.1 = (pick m (O.take (k + 1)) xm).1) := Lib.hid (by rw [HS2.out, if_pos hx])
          obtain ⟨vx, hvx⟩ : ∃ vx, x.2.1 = vx := ⟨_, rfl⟩
          rw [hvx] at d1 HSE
          rw [hx2] at d0
          clear hvx hx hx2
          go_wp2
          go_roundw
          case rel => exact ⟨k + 1, by omega, by go_num, HSE.out, trivial⟩
          case measure => simp [intOf]; omega
        · have hx2 : ((x.1 : Int) == (m : Int)) = false := by rw [beq_eq_false_iff_ne]; omega
          have HSE : Hid (pick m (O.take (k + 1)) xm = pick m (O.take k) xm) := Lib.hid (by rw [HS2.out, if_neg hx])
          go_wp2
          go_roundw
          case rel => exact ⟨k + 1, by omega, by go_num, by rw [HSE.out], trivial⟩
          case measure => simp [intOf]; omega
      · have hlt2 : ¬ (k : Int) < (O.length : Int) := by omega
        obtain rfl : k = O.length := by omega
        rw [HTE.out]
        obtain ⟨gp, cp, hpv⟩ := HP.out.slice
        have HB : Hid (Bytes (wr.alloc (.cells #[] 5)) (pick m O xm).1 (pick m O xm).2) := Lib.hid ((Bytes.of_own (by rw [HP.out.2]; exact HP.out.1)).same ((Keeps.refl _ _).alloc _))
        have HPL := Lib.hid HP.out.2
        generalize (pick m O xm).1 = pv at *
        obtain ⟨pb, hpb⟩ : ∃ pb, (pick m O xm).2 = pb := ⟨_, rfl⟩
        have HPB := Lib.hid hpb
        rw [hpb] at HB HPL
        clear hpb
        subst hpv
        go_wp2_with (refine wpList_append_bytes (by rfl) _ _ 31 5 iu (by rfl) Try.underlying31 hiu hu0 hu1 hu2 wr.heap.size wr.heap.size 0 [] pb _ (by rfl) (by rfl) (own_nothing wr 5) HB.out (by have := HPL.out; simp; omega) (by simp) ?_)
        intro g' cap' w' hown hgr _
        have HK : Hid (Same wr w') := Lib.hid (((Keeps.refl (fun _ => False) wr).alloc (.cells #[] 5)).trans ((Keeps.refl (fun k => k = wr.heap.size) _).grown hgr (fun k e _ => by cases e; rfl)) (fun j hj e => by omega))
        have HOW : Hid (w'.ownsRow wr.heap.size 5 1 (.slice (some ⟨g', 0, none⟩) 512 cap') 512 (u8s pb)) := Lib.hid (by
          have h := hown
          rw [HPL.out] at h
          exact h)
        rw [HPL.out]
        clear hown hgr
        go_wp2
        go_ret2
        exact ⟨_, rfl, by rw [HPB.out]; exact HOW.out, HK.out⟩
  · have hs : s.seen i = [] := by unfold DSt.seen; rw [if_neg (by rw [hLl]; exact hin)]
    rw [hs]
    obtain ⟨lo, lc, hlv⟩ : ∃ lo lc, lv = .slice lo L.length lc := by
      rcases h.las.2 with ⟨e, h0⟩ | ⟨g, cp, cur, e, _⟩
      · exact ⟨none, 0, by rw [e, h0]⟩
      · exact ⟨_, cp, e⟩
    subst hlv
    cases hd : s.down with
    | true =>
      have hr : s.rcode i = 3 := by unfold DSt.rcode; rw [if_pos hd]
      rw [hr]
      rw [hd] at c3
      clear h e1 e2 hr hs hin c0 c1 c2 hLl hO hd
      go_enter Try.func31, Try.ntmps31
      go_wp2
      go_ret2
      exact ⟨_, rfl, HOE.out, HKA.out⟩
    | false =>
      have hr : s.rcode i = 2 := by unfold DSt.rcode; rw [if_neg (by simp [hd]), if_neg (fun q => hin ⟨hd, by rw [← hLl]; exact q⟩)]
      rw [hr]
      rw [hd] at c3
      by_cases q : i < 0
      · clear h e1 e2 hr hs hin c1 c2 hLl hO hd
        go_enter Try.func31, Try.ntmps31
        go_wp2
        go_ret2
        exact ⟨_, rfl, HOE.out, HKA.out⟩
      · have q2 : i ≥ (L.length : Int) := by
          by_cases q3 : i < (L.length : Int)
          · exact absurd ⟨hd, by omega, q3⟩ hin
          · omega
        clear h e1 e2 hr hs hin c1 c2 hLl hO hd
        go_enter Try.func31, Try.ntmps31
        go_wp2
        go_ret2
        exact ⟨_, rfl, HOE.out, HKA.out⟩
end Go.Proofs.Ytoimhniijeafaaa
