/- The walk of WireHeads. -/
import Derived.Test.YtcbkopjklbiheaaDoorWm11
import Derived.Test.YtcbkopjklbiheaaDoorLrow
namespace Go.Proofs.YtcbkopjklbiheaaDoor
open Go.RowKit
set_option linter.unusedVariables false

/-- The first four bytes of what was written. -/
theorem begin_cells {w : World} {m : Msg} (hr : m.Right) (hd : m.hd.length = 32) {g c : Nat} (h : Bytes w (.slice (some ⟨g, 0, none⟩) m.bytes.length c) m.bytes) :
    ∀ w', Same w w' → w'.cell? ⟨g, 0, none⟩ = some (.int .u8 3) ∧ w'.cell? ⟨g, 1, none⟩ = some (.int .u8 m.k) ∧ w'.cell? ⟨g, 2, none⟩ = some (.int .u8 m.f) ∧ w'.cell? ⟨g, 3, none⟩ = some (.int .u8 m.t) := fun w' k => by
  obtain ⟨b0, b1, b2, b3, b4⟩ := bytes_begin hr hd
  have hk := hr.kind
  have hf := hr.frm
  have ht := hr.to
  have key : ∀ j (u : UInt8), m.bytes[j]? = some u → w'.cell? ⟨g, j, none⟩ = some (.int .u8 ((u.toNat : Nat) : Int)) := fun j u hu => by
    rcases h.same k with ⟨a, c', e, hc⟩ | ⟨c', e, _⟩
    · simp only [Value.slice.injEq, Option.some.injEq] at e
      obtain ⟨rfl, _, _⟩ := e
      have := hc j (.int .u8 ((u.toNat : Nat) : Int)) (by simp [u8s, hu])
      rw [add_at, Nat.zero_add] at this
      exact this
    · cases e
  have cast : ∀ z : Int, 0 ≤ z → z ≤ 255 → (((UInt8.ofNat z.toNat).toNat : Nat) : Int) = z := fun z h1 h2 => by
    rw [UInt8.toNat_ofNat']; omega
  refine ⟨key 0 3 b1, ?_, ?_, ?_⟩
  · have := key 1 _ b2; rwa [cast _ (by omega) (by omega)] at this
  · have := key 2 _ b3; rwa [cast _ (by omega) (by omega)] at this
  · have := key 3 _ b4; rwa [cast _ (by omega) (by omega)] at this
theorem MsgIn.numOk {w : World} {m : Msg} (h : MsgIn w m) : m.NumOk := h.nm

set_option maxRecDepth 100000 in
set_option maxHeartbeats 51200000 in
theorem heads_any (m q : Msg) (w : World) (h : MsgIn w m) (h2 : MsgIn w q) (hN : Nums w) : Calls Tryd.prog 6 #[.agg m.cells.toArray, .agg q.cells.toArray] w fun e w' => e = .returned (.bool true) ∧ Same w w' := by
  have HM := Lib.hid h
  have HQ := Lib.hid h2
  have HNUM := Lib.hid hN
  obtain ⟨w1, hw1⟩ : ∃ w1, w.alloc (.cells m.cells.toArray 38) = w1 := ⟨_, rfl⟩
  obtain ⟨w2, hw2⟩ : ∃ w2, w1.alloc (.cells q.cells.toArray 38) = w2 := ⟨_, rfl⟩
  have HK : Hid (Same w w2) := Lib.hid (by rw [← hw2, ← hw1]; exact ((Keeps.refl _ _).alloc _).alloc _)
  have HBA : Hid (MsgAt w2 w.heap.size m) := Lib.hid (by
    have h1 : MsgAt w1 w.heap.size m := by rw [← hw1]; exact MsgAt.new w m h.hd
    rw [← hw2]; exact h1.keep ((Keeps.refl (fun _ => False) _).alloc _) (fun e => e))
  have HBB : Hid (MsgAt w2 w1.heap.size q) := Lib.hid (by rw [← hw2]; exact MsgAt.new w1 q h2.hd)
  have HSA := Lib.hid (Tryd.sizeMsgOf m h.hd)
  have HSB := Lib.hid (Tryd.sizeMsgOf q h2.hd)
  clear h h2 hN
  go_enter Tryd.func6, Tryd.ntmps6
  go_wp2_with fail
  ((with_reducible refine (speaks19 _ (HNUM.out.keep HK.out (fun e => e))).mono ?_); rintro e w3 ⟨rfl, hk3⟩)
  have HK3 := Lib.hid (HK.out.trans hk3 (fun _ _ e => e))
  have HA3 := Lib.hid (HBA.out.keep hk3 (fun e => e))
  have HB3 := Lib.hid (HBB.out.keep hk3 (fun e => e))
  have HRA3 : Hid (w3.heap[w.heap.size]? = some (.cells m.cells.toArray 38 (0, 0))) := Lib.hid HA3.out.1
  have HGA := Lib.hid (greatMsg_any m w3 (HM.out.same HK3.out))
  unfold GreatM at HGA
  clear hk3 hw1 hw2 HBA HBB
  go_wp2_with ((with_reducible refine wpList_load_row_w ?_ 38 (.tmp 2) ?_ w.heap.size ?_ 38 m.cells.toArray (0, 0) _ HRA3.out Tryd.underlying38 ?_ HSA.out ?_); rfl; rfl; rfl; rfl)
  ((with_reducible refine HGA.out.mono ?_); rintro e w4 ⟨b, rfl, hk4, hg⟩)
  have HG := Lib.hid hg
  have HK4 := Lib.hid (HK3.out.trans hk4 (fun _ _ e => e))
  have HA4 := Lib.hid (HA3.out.keep hk4 (fun e => e))
  have HB4 := Lib.hid (HB3.out.keep hk4 (fun e => e))
  clear hk4 hg
  cases b with
  | true =>
    go_wp2
    go_ret
    exact ⟨rfl, HK4.out⟩
  | false =>
  have HGM := Lib.hid (HG.out rfl)
  clear HG
  have HRB4 : Hid (w4.heap[w1.heap.size]? = some (.cells q.cells.toArray 38 (0, 0))) := Lib.hid HB4.out.1
  have HGB := Lib.hid (greatMsg_any q w4 (HQ.out.same HK4.out))
  unfold GreatM at HGB
  go_wp2_with ((with_reducible refine wpList_load_row_w ?_ 38 (.tmp 3) ?_ w1.heap.size ?_ 38 q.cells.toArray (0, 0) _ HRB4.out Tryd.underlying38 ?_ HSB.out ?_); rfl; rfl; rfl; rfl)
  ((with_reducible refine HGB.out.mono ?_); rintro e w5 ⟨b, rfl, hk5, hg⟩)
  have HK5 := Lib.hid (HK4.out.trans hk5 (fun _ _ e => e))
  have HA5 := Lib.hid (HA4.out.keep hk5 (fun e => e))
  have HB5 := Lib.hid (HB4.out.keep hk5 (fun e => e))
  clear hk5 hg
  cases b with
  | true =>
    go_wp2
    go_ret
    exact ⟨rfl, HK5.out⟩
  | false =>
  have HRA5 : Hid (w5.heap[w.heap.size]? = some (.cells m.cells.toArray 38 (0, 0))) := Lib.hid HA5.out.1
  have HWA := Lib.hid (wireWrite_any m w5 (HM.out.same HK5.out) (HNUM.out.keep HK5.out (fun e => e)))
  unfold WirePost at HWA
  go_wp2_with ((with_reducible refine wpList_load_row_w ?_ 38 (.tmp 2) ?_ w.heap.size ?_ 38 m.cells.toArray (0, 0) _ HRA5.out Tryd.underlying38 ?_ HSA.out ?_); rfl; rfl; rfl; rfl)
  ((with_reducible refine HWA.out.mono ?_); rintro e w6 ⟨hk6, hr⟩)
  have HK6 := Lib.hid (HK5.out.trans hk6 (fun _ _ e => e))
  have HA6 := Lib.hid (HA5.out.keep hk6 (fun e => e))
  have HB6 := Lib.hid (HB5.out.keep hk6 (fun e => e))
  have HRB6 : Hid (w6.heap[w1.heap.size]? = some (.cells q.cells.toArray 38 (0, 0))) := Lib.hid HB6.out.1
  have HWB := Lib.hid (wireWrite_any q w6 (HQ.out.same HK6.out) (HNUM.out.keep HK6.out (fun e => e)))
  unfold WirePost at HWB
  clear hk6
  rcases hr with ⟨hR, v, rfl, hown⟩ | ⟨hR, rfl⟩
  case inr =>
    have HR := Lib.hid hR
    clear hR
    go_wp2_with ((with_reducible refine wpList_load_row_w ?_ 38 (.tmp 3) ?_ w1.heap.size ?_ 38 q.cells.toArray (0, 0) _ HRB6.out Tryd.underlying38 ?_ HSB.out ?_); rfl; rfl; rfl; rfl)
    ((with_reducible refine HWB.out.mono ?_); rintro e w7 ⟨hk7, hr⟩)
    have HK7 := Lib.hid (HK6.out.trans hk7 (fun _ _ e => e))
    clear hk7
    rcases hr with ⟨hR, v, rfl, hown⟩ | ⟨hR, rfl⟩
    · clear hR hown
      go_wp2
      go_ret
      exact ⟨rfl, HK7.out⟩
    · clear hR
      go_wp2
      go_ret
      exact ⟨rfl, HK7.out⟩
  have HR := Lib.hid hR
  have HOX := Lib.hid hown
  clear hR hown
  go_wp2_with ((with_reducible refine wpList_load_row_w ?_ 38 (.tmp 3) ?_ w1.heap.size ?_ 38 q.cells.toArray (0, 0) _ HRB6.out Tryd.underlying38 ?_ HSB.out ?_); rfl; rfl; rfl; rfl)
  ((with_reducible refine HWB.out.mono ?_); rintro e w7 ⟨hk7, hr⟩)
  have HK7 := Lib.hid (HK6.out.trans hk7 (fun _ _ e => e))
  have HA := Lib.hid (HA6.out.keep hk7 (fun e => e))
  have HB := Lib.hid (HB6.out.keep hk7 (fun e => e))
  have HOX7 : Hid (w7.ownsRow w5.heap.size 5 1 v m.bytes.length (u8s m.bytes)) := Lib.hid (own_keeps hk7 HOX.out (fun _ _ e => e))
  clear hk7
  rcases hr with ⟨hR, v2, rfl, hown⟩ | ⟨hR, rfl⟩
  case inr =>
    clear hR
    go_wp2
    go_ret
    exact ⟨rfl, HK7.out⟩
  have HR2 := Lib.hid hR
  have HB1 := (bytes_begin HR.out HM.out.hd).1
  have HB2 := (bytes_begin HR2.out HQ.out.hd).1
  obtain ⟨g1, c1, rfl⟩ : ∃ g1 c1, v = .slice (some ⟨g1, 0, none⟩) m.bytes.length c1 := by
    rcases HOX7.out.2 with ⟨_, h0⟩ | ⟨g, cp, cur, h, _⟩
    · omega
    · exact ⟨g, cp, h⟩
  obtain ⟨g2, c2, rfl⟩ : ∃ g2 c2, v2 = .slice (some ⟨g2, 0, none⟩) q.bytes.length c2 := by
    rcases hown.2 with ⟨_, h0⟩ | ⟨g, cp, cur, h, _⟩
    · omega
    · exact ⟨g, cp, h⟩
  have HXC := Lib.hid (begin_cells HR.out HM.out.hd (Bytes.of_own HOX7.out))
  have HRX : Hid (Reads w7 (.slice (some ⟨g1, 0, none⟩) m.bytes.length c1) m.bytes) := Lib.hid (Reads.of_own HOX7.out rfl)
  have HRY : Hid (Reads w7 (.slice (some ⟨g2, 0, none⟩) q.bytes.length c2) q.bytes) := Lib.hid (Reads.of_own hown rfl)
  have HINJ := Lib.hid (bytes_inj HR.out HR2.out HM.out.hd HQ.out.hd HM.out.numOk HQ.out.numOk HM.out.hs.1 HQ.out.hs.1)
  have HMA := Lib.hid (HM.out.same HK7.out)
  have HMB := Lib.hid (HQ.out.same HK7.out)
  have HLN : Hid (m.ns.length ≤ 140737488351232 ∧ m.hs.length ≤ 140737488351232 ∧ m.bs.length ≤ 140737488351232) := Lib.hid (by have := HGM.out; omega)
  have HWJ : Hid (IntKind.i64.wrap m.k = m.k ∧ IntKind.i64.wrap m.f = m.f ∧ IntKind.i64.wrap m.t = m.t) := Lib.hid (by
    have h1 := HR.out.kind
    have h2 := HR.out.frm
    have h3 := HR.out.to
    exact ⟨IntWalk.i64_in _ (by omega), IntWalk.i64_in _ (by omega), IntWalk.i64_in _ (by omega)⟩)
  have HNL : Hid ((91 : Int) ≤ (m.bytes.length : Int)) := Lib.hid (by omega)
  obtain ⟨X, hX⟩ : ∃ X, m.bytes = X := ⟨_, rfl⟩
  obtain ⟨Y, hY⟩ : ∃ Y, q.bytes = Y := ⟨_, rfl⟩
  rw [hX] at HRX HINJ HNL
  rw [hY] at HRY HINJ
  simp only [hX, hY]
  obtain ⟨n1, hn1⟩ : ∃ n, X.length = n := ⟨_, rfl⟩
  obtain ⟨n2, hn2⟩ : ∃ n, Y.length = n := ⟨_, rfl⟩
  rw [hn1] at HRX HNL
  rw [hn2] at HRY
  simp only [hn1, hn2]
  clear hX hY hn1 hn2 hR hown HB1 HB2 HOX HOX7
  by_cases hd : X = Y
  · have HEQ := Lib.hid (HINJ.out.1 hd)
    subst hd
    go_wp2
    refine wp_region_do [[], [0], [1], [2], [3], [4, 3], [5, 3], [6, 3], [3, 7], [8, 3], [9], [10, 9], [11, 9], [12, 9], [9], [14, 9], [13, 15, 9], [9, 16], [17, 9], [18], [19, 18], [20, 18], [21, 18], [18], [23, 18], [22, 24, 18], [18, 25], [26, 18], [27], [28, 27], [29, 27], [30, 27], [27], [32, 27], [31, 33, 27], [27, 34], [35, 27], [36], [37, 36], [36], [39, 36], [38, 40, 36], [36], [36], [42, 43, 36, 36], [41, 44, 36], [36, 45], [46, 44, 0, 1, 2, 3, 4, 5, 6, 7, 8, 9, 10, 11, 12, 13, 14, 15, 16, 17, 18, 19, 20, 21, 22, 23, 24, 25, 26, 27, 28, 29, 30, 31, 32, 33, 34, 35, 36, 37, 38, 39, 40, 41, 42, 43, 44, 45, 46]]
      [some 33, some 34, some 35, some 36, some 37, some 38, some 39, some 40, some 41, some 42, some 43, some 44, some 45, some 46, some 47, some 48, some 49, some 50, some 51, some 52, some 53, some 54, some 55, some 56, some 57, some 58, some 59, some 60, some 61, some 62, some 63, some 64, some 65, some 66, some 67, some 68, some 69, some 70, some 71, some 72, some 73, some 74, some 75, some 76, some 77, some 78, some 79, some 4]
      [.is (.slice (some ⟨g1, 0, none⟩) n1 c1), .is (.int .i64 (n1 : Int)), .is (.bool true), .is (.bool true), .is (.slice (some ⟨g1, 0, none⟩) n1 c1), .is (.pointer (some ⟨g1, 0, none⟩)), .is (.int .u8 3), .is (.bool true), .is (.bool true), .is (.bool true), .is (.slice (some ⟨g1, 0, none⟩) n1 c1), .is (.pointer (some ⟨g1, 1, none⟩)), .is (.int .u8 m.k), .is (.int .i64 m.k), .is (.pointer (some ⟨w.heap.size, 0, none⟩)), .is (.int .i64 m.k), .is (.bool true), .is (.bool true), .is (.bool true), .is (.slice (some ⟨g1, 0, none⟩) n1 c1), .is (.pointer (some ⟨g1, 2, none⟩)), .is (.int .u8 m.f), .is (.int .i64 m.f), .is (.pointer (some ⟨w.heap.size, 1, none⟩)), .is (.int .i64 m.f), .is (.bool true), .is (.bool true), .is (.bool true), .is (.slice (some ⟨g1, 0, none⟩) n1 c1), .is (.pointer (some ⟨g1, 3, none⟩)), .is (.int .u8 m.t), .is (.int .i64 m.t), .is (.pointer (some ⟨w.heap.size, 2, none⟩)), .is (.int .i64 m.t), .is (.bool true), .is (.bool true), .is (.bool true), .is (.slice (some ⟨g1, 0, none⟩) n1 c1), .is (.string ⟨X.toArray⟩), .is (.slice (some ⟨g2, 0, none⟩) n2 c2), .is (.string ⟨X.toArray⟩), .is (.bool true), .is (.agg m.cells.toArray), .is (.agg q.cells.toArray), .is (.bool true), .is (.bool true), .is (.bool true), .is (.bool true)]
      9 _ _ 80 48 (by kernel_rfl) (by rfl) (by rfl) (by kernel_rfl) (by kernel_rfl) (by decide) ?_ ?_
    · refine ⟨?_, ?_, ?_, ?_, ?_, ?_, ?_, ?_, ?_, ?_, ?_, ?_, ?_, ?_, ?_, ?_, ?_, ?_, ?_, ?_, ?_, ?_, ?_, ?_, ?_, ?_, ?_, ?_, ?_, ?_, ?_, ?_, ?_, ?_, ?_, ?_, ?_, ?_, ?_, ?_, ?_, ?_, ?_, ?_, ?_, ?_, ?_, ?_, trivial⟩
      · intro a w' K hs' hdep hfr hK
        have f5 := hfr 5 (by decide)
        exact plan_do (by rfl) (plan_yield (i := 0) (V := fun _ _ v => v = (.slice (some ⟨g1, 0, none⟩) n1 c1 : Value)) (.slice (some ⟨g1, 0, none⟩) n1 c1) (by go_simp) rfl hK)
      · intro a w' K hs' hdep hfr hK
        have e33 : a.tmps[33]?.getD undef = (.slice (some ⟨g1, 0, none⟩) n1 c1) := hdep 0 (by decide) 33 rfl
        exact plan_do (by rfl) (plan_yield (i := 1) (V := fun _ _ v => v = (.int .i64 (n1 : Int) : Value)) (.int .i64 (n1 : Int)) (by go_simp) rfl hK)
      · intro a w' K hs' hdep hfr hK
        have e34 : a.tmps[34]?.getD undef = (.int .i64 (n1 : Int)) := hdep 1 (by decide) 34 rfl
        have hn := HNL.out
        exact plan_do (by rfl) (plan_yield (i := 2) (V := fun _ _ v => v = (.bool true : Value)) (.bool true) (by go_simp) rfl hK)
      · intro a w' K hs' hdep hfr hK
        have e35 : a.tmps[35]?.getD undef = (.bool true) := hdep 2 (by decide) 35 rfl
        exact plan_do (by rfl) (plan_yield (i := 3) (V := fun _ _ v => v = (.bool true : Value)) (.bool true) (by go_simp) rfl hK)
      · intro a w' K hs' hdep hfr hK
        have e36 : a.tmps[36]?.getD undef = (.bool true) := hdep 3 (by decide) 36 rfl
        have f5 := hfr 5 (by decide)
        exact plan_do (wanted_of 3 36 true rfl rfl e36) (plan_yield (i := 4) (V := fun _ _ v => v = (.slice (some ⟨g1, 0, none⟩) n1 c1 : Value)) (.slice (some ⟨g1, 0, none⟩) n1 c1) (by go_simp) rfl hK)
      · intro a w' K hs' hdep hfr hK
        have e37 : a.tmps[37]?.getD undef = (.slice (some ⟨g1, 0, none⟩) n1 c1) := hdep 4 (by decide) 37 rfl
        have e36 : a.tmps[36]?.getD undef = (.bool true) := hdep 3 (by decide) 36 rfl
        have hn := HNL.out
        have hn2 : (0 : Int) < (n1 : Int) := by omega
        have hn3 : ¬ n1 = 0 := by omega
        exact plan_do (wanted_of 3 36 true rfl rfl e36) (plan_yield (i := 5) (V := fun _ _ v => v = (.pointer (some ⟨g1, 0, none⟩) : Value)) (.pointer (some ⟨g1, 0, none⟩)) (by go_simp) rfl hK)
      · intro a w' K hs' hdep hfr hK
        have e38 : a.tmps[38]?.getD undef = (.pointer (some ⟨g1, 0, none⟩)) := hdep 5 (by decide) 38 rfl
        have e36 : a.tmps[36]?.getD undef = (.bool true) := hdep 3 (by decide) 36 rfl
        have cl := (HXC.out _ hs').1
        exact plan_do (wanted_of 3 36 true rfl rfl e36) (plan_yield (i := 6) (V := fun _ _ v => v = (.int .u8 3 : Value)) (.int .u8 3) (by go_simp) rfl hK)
      · intro a w' K hs' hdep hfr hK
        have e39 : a.tmps[39]?.getD undef = (.int .u8 3) := hdep 6 (by decide) 39 rfl
        have e36 : a.tmps[36]?.getD undef = (.bool true) := hdep 3 (by decide) 36 rfl
        exact plan_do (wanted_of 3 36 true rfl rfl e36) (plan_yield (i := 7) (V := fun _ _ v => v = (.bool true : Value)) (.bool true) (by go_simp) rfl hK)
      · intro a w' K hs' hdep hfr hK
        have e36 : a.tmps[36]?.getD undef = (.bool true) := hdep 3 (by decide) 36 rfl
        have e40 : a.tmps[40]?.getD undef = (.bool true) := hdep 7 (by decide) 40 rfl
        exact plan_do (by rfl) (plan_yield (i := 8) (V := fun _ _ v => v = (.bool true : Value)) (.bool true) (by go_simp) rfl hK)
      · intro a w' K hs' hdep hfr hK
        have e41 : a.tmps[41]?.getD undef = (.bool true) := hdep 8 (by decide) 41 rfl
        exact plan_do (by rfl) (plan_yield (i := 9) (V := fun _ _ v => v = (.bool true : Value)) (.bool true) (by go_simp) rfl hK)
      · intro a w' K hs' hdep hfr hK
        have e42 : a.tmps[42]?.getD undef = (.bool true) := hdep 9 (by decide) 42 rfl
        have f5 := hfr 5 (by decide)
        exact plan_do (wanted_of 9 42 true rfl rfl e42) (plan_yield (i := 10) (V := fun _ _ v => v = (.slice (some ⟨g1, 0, none⟩) n1 c1 : Value)) (.slice (some ⟨g1, 0, none⟩) n1 c1) (by go_simp) rfl hK)
      · intro a w' K hs' hdep hfr hK
        have e43 : a.tmps[43]?.getD undef = (.slice (some ⟨g1, 0, none⟩) n1 c1) := hdep 10 (by decide) 43 rfl
        have e42 : a.tmps[42]?.getD undef = (.bool true) := hdep 9 (by decide) 42 rfl
        have hn := HNL.out
        have hn2 : (1 : Int) < (n1 : Int) := by omega
        exact plan_do (wanted_of 9 42 true rfl rfl e42) (plan_yield (i := 11) (V := fun _ _ v => v = (.pointer (some ⟨g1, 1, none⟩) : Value)) (.pointer (some ⟨g1, 1, none⟩)) (by go_simp) rfl hK)
      · intro a w' K hs' hdep hfr hK
        have e44 : a.tmps[44]?.getD undef = (.pointer (some ⟨g1, 1, none⟩)) := hdep 11 (by decide) 44 rfl
        have e42 : a.tmps[42]?.getD undef = (.bool true) := hdep 9 (by decide) 42 rfl
        have cl := (HXC.out _ hs').2.1
        exact plan_do (wanted_of 9 42 true rfl rfl e42) (plan_yield (i := 12) (V := fun _ _ v => v = (.int .u8 m.k : Value)) (.int .u8 m.k) (by go_simp) rfl hK)
      · intro a w' K hs' hdep hfr hK
        have e45 : a.tmps[45]?.getD undef = (.int .u8 m.k) := hdep 12 (by decide) 45 rfl
        have e42 : a.tmps[42]?.getD undef = (.bool true) := hdep 9 (by decide) 42 rfl
        have wj := HWJ.out.1
        exact plan_do (wanted_of 9 42 true rfl rfl e42) (plan_yield (i := 13) (V := fun _ _ v => v = (.int .i64 m.k : Value)) (.int .i64 m.k) (by go_simp) rfl hK)
      · intro a w' K hs' hdep hfr hK
        have e42 : a.tmps[42]?.getD undef = (.bool true) := hdep 9 (by decide) 42 rfl
        have f2 := hfr 2 (by decide)
        exact plan_do (wanted_of 9 42 true rfl rfl e42) (plan_yield (i := 14) (V := fun _ _ v => v = (.pointer (some ⟨w.heap.size, 0, none⟩) : Value)) (.pointer (some ⟨w.heap.size, 0, none⟩)) (by go_simp) rfl hK)
      · intro a w' K hs' hdep hfr hK
        have e47 : a.tmps[47]?.getD undef = (.pointer (some ⟨w.heap.size, 0, none⟩)) := hdep 14 (by decide) 47 rfl
        have e42 : a.tmps[42]?.getD undef = (.bool true) := hdep 9 (by decide) 42 rfl
        have cl := (HA.out.keep hs' (fun e => e)).low 0 _ (by omega) rfl
        exact plan_do (wanted_of 9 42 true rfl rfl e42) (plan_yield (i := 15) (V := fun _ _ v => v = (.int .i64 m.k : Value)) (.int .i64 m.k) (by go_simp) rfl hK)
      · intro a w' K hs' hdep hfr hK
        have e46 : a.tmps[46]?.getD undef = (.int .i64 m.k) := hdep 13 (by decide) 46 rfl
        have e48 : a.tmps[48]?.getD undef = (.int .i64 m.k) := hdep 15 (by decide) 48 rfl
        have e42 : a.tmps[42]?.getD undef = (.bool true) := hdep 9 (by decide) 42 rfl
        exact plan_do (wanted_of 9 42 true rfl rfl e42) (plan_yield (i := 16) (V := fun _ _ v => v = (.bool true : Value)) (.bool true) (by go_simp) rfl hK)
      · intro a w' K hs' hdep hfr hK
        have e42 : a.tmps[42]?.getD undef = (.bool true) := hdep 9 (by decide) 42 rfl
        have e49 : a.tmps[49]?.getD undef = (.bool true) := hdep 16 (by decide) 49 rfl
        exact plan_do (by rfl) (plan_yield (i := 17) (V := fun _ _ v => v = (.bool true : Value)) (.bool true) (by go_simp) rfl hK)
      · intro a w' K hs' hdep hfr hK
        have e50 : a.tmps[50]?.getD undef = (.bool true) := hdep 17 (by decide) 50 rfl
        exact plan_do (by rfl) (plan_yield (i := 18) (V := fun _ _ v => v = (.bool true : Value)) (.bool true) (by go_simp) rfl hK)
      · intro a w' K hs' hdep hfr hK
        have e51 : a.tmps[51]?.getD undef = (.bool true) := hdep 18 (by decide) 51 rfl
        have f5 := hfr 5 (by decide)
        exact plan_do (wanted_of 18 51 true rfl rfl e51) (plan_yield (i := 19) (V := fun _ _ v => v = (.slice (some ⟨g1, 0, none⟩) n1 c1 : Value)) (.slice (some ⟨g1, 0, none⟩) n1 c1) (by go_simp) rfl hK)
      · intro a w' K hs' hdep hfr hK
        have e52 : a.tmps[52]?.getD undef = (.slice (some ⟨g1, 0, none⟩) n1 c1) := hdep 19 (by decide) 52 rfl
        have e51 : a.tmps[51]?.getD undef = (.bool true) := hdep 18 (by decide) 51 rfl
        have hn := HNL.out
        have hn2 : (2 : Int) < (n1 : Int) := by omega
        exact plan_do (wanted_of 18 51 true rfl rfl e51) (plan_yield (i := 20) (V := fun _ _ v => v = (.pointer (some ⟨g1, 2, none⟩) : Value)) (.pointer (some ⟨g1, 2, none⟩)) (by go_simp) rfl hK)
      · intro a w' K hs' hdep hfr hK
        have e53 : a.tmps[53]?.getD undef = (.pointer (some ⟨g1, 2, none⟩)) := hdep 20 (by decide) 53 rfl
        have e51 : a.tmps[51]?.getD undef = (.bool true) := hdep 18 (by decide) 51 rfl
        have cl := (HXC.out _ hs').2.2.1
        exact plan_do (wanted_of 18 51 true rfl rfl e51) (plan_yield (i := 21) (V := fun _ _ v => v = (.int .u8 m.f : Value)) (.int .u8 m.f) (by go_simp) rfl hK)
      · intro a w' K hs' hdep hfr hK
        have e54 : a.tmps[54]?.getD undef = (.int .u8 m.f) := hdep 21 (by decide) 54 rfl
        have e51 : a.tmps[51]?.getD undef = (.bool true) := hdep 18 (by decide) 51 rfl
        have wj := HWJ.out.2.1
        exact plan_do (wanted_of 18 51 true rfl rfl e51) (plan_yield (i := 22) (V := fun _ _ v => v = (.int .i64 m.f : Value)) (.int .i64 m.f) (by go_simp) rfl hK)
      · intro a w' K hs' hdep hfr hK
        have e51 : a.tmps[51]?.getD undef = (.bool true) := hdep 18 (by decide) 51 rfl
        have f2 := hfr 2 (by decide)
        exact plan_do (wanted_of 18 51 true rfl rfl e51) (plan_yield (i := 23) (V := fun _ _ v => v = (.pointer (some ⟨w.heap.size, 1, none⟩) : Value)) (.pointer (some ⟨w.heap.size, 1, none⟩)) (by go_simp) rfl hK)
      · intro a w' K hs' hdep hfr hK
        have e56 : a.tmps[56]?.getD undef = (.pointer (some ⟨w.heap.size, 1, none⟩)) := hdep 23 (by decide) 56 rfl
        have e51 : a.tmps[51]?.getD undef = (.bool true) := hdep 18 (by decide) 51 rfl
        have cl := (HA.out.keep hs' (fun e => e)).low 1 _ (by omega) rfl
        exact plan_do (wanted_of 18 51 true rfl rfl e51) (plan_yield (i := 24) (V := fun _ _ v => v = (.int .i64 m.f : Value)) (.int .i64 m.f) (by go_simp) rfl hK)
      · intro a w' K hs' hdep hfr hK
        have e55 : a.tmps[55]?.getD undef = (.int .i64 m.f) := hdep 22 (by decide) 55 rfl
        have e57 : a.tmps[57]?.getD undef = (.int .i64 m.f) := hdep 24 (by decide) 57 rfl
        have e51 : a.tmps[51]?.getD undef = (.bool true) := hdep 18 (by decide) 51 rfl
        exact plan_do (wanted_of 18 51 true rfl rfl e51) (plan_yield (i := 25) (V := fun _ _ v => v = (.bool true : Value)) (.bool true) (by go_simp) rfl hK)
      · intro a w' K hs' hdep hfr hK
        have e51 : a.tmps[51]?.getD undef = (.bool true) := hdep 18 (by decide) 51 rfl
        have e58 : a.tmps[58]?.getD undef = (.bool true) := hdep 25 (by decide) 58 rfl
        exact plan_do (by rfl) (plan_yield (i := 26) (V := fun _ _ v => v = (.bool true : Value)) (.bool true) (by go_simp) rfl hK)
      · intro a w' K hs' hdep hfr hK
        have e59 : a.tmps[59]?.getD undef = (.bool true) := hdep 26 (by decide) 59 rfl
        exact plan_do (by rfl) (plan_yield (i := 27) (V := fun _ _ v => v = (.bool true : Value)) (.bool true) (by go_simp) rfl hK)
      · intro a w' K hs' hdep hfr hK
        have e60 : a.tmps[60]?.getD undef = (.bool true) := hdep 27 (by decide) 60 rfl
        have f5 := hfr 5 (by decide)
        exact plan_do (wanted_of 27 60 true rfl rfl e60) (plan_yield (i := 28) (V := fun _ _ v => v = (.slice (some ⟨g1, 0, none⟩) n1 c1 : Value)) (.slice (some ⟨g1, 0, none⟩) n1 c1) (by go_simp) rfl hK)
      · intro a w' K hs' hdep hfr hK
        have e61 : a.tmps[61]?.getD undef = (.slice (some ⟨g1, 0, none⟩) n1 c1) := hdep 28 (by decide) 61 rfl
        have e60 : a.tmps[60]?.getD undef = (.bool true) := hdep 27 (by decide) 60 rfl
        have hn := HNL.out
        have hn2 : (3 : Int) < (n1 : Int) := by omega
        exact plan_do (wanted_of 27 60 true rfl rfl e60) (plan_yield (i := 29) (V := fun _ _ v => v = (.pointer (some ⟨g1, 3, none⟩) : Value)) (.pointer (some ⟨g1, 3, none⟩)) (by go_simp) rfl hK)
      · intro a w' K hs' hdep hfr hK
        have e62 : a.tmps[62]?.getD undef = (.pointer (some ⟨g1, 3, none⟩)) := hdep 29 (by decide) 62 rfl
        have e60 : a.tmps[60]?.getD undef = (.bool true) := hdep 27 (by decide) 60 rfl
        have cl := (HXC.out _ hs').2.2.2
        exact plan_do (wanted_of 27 60 true rfl rfl e60) (plan_yield (i := 30) (V := fun _ _ v => v = (.int .u8 m.t : Value)) (.int .u8 m.t) (by go_simp) rfl hK)
      · intro a w' K hs' hdep hfr hK
        have e63 : a.tmps[63]?.getD undef = (.int .u8 m.t) := hdep 30 (by decide) 63 rfl
        have e60 : a.tmps[60]?.getD undef = (.bool true) := hdep 27 (by decide) 60 rfl
        have wj := HWJ.out.2.2
        exact plan_do (wanted_of 27 60 true rfl rfl e60) (plan_yield (i := 31) (V := fun _ _ v => v = (.int .i64 m.t : Value)) (.int .i64 m.t) (by go_simp) rfl hK)
      · intro a w' K hs' hdep hfr hK
        have e60 : a.tmps[60]?.getD undef = (.bool true) := hdep 27 (by decide) 60 rfl
        have f2 := hfr 2 (by decide)
        exact plan_do (wanted_of 27 60 true rfl rfl e60) (plan_yield (i := 32) (V := fun _ _ v => v = (.pointer (some ⟨w.heap.size, 2, none⟩) : Value)) (.pointer (some ⟨w.heap.size, 2, none⟩)) (by go_simp) rfl hK)
      · intro a w' K hs' hdep hfr hK
        have e65 : a.tmps[65]?.getD undef = (.pointer (some ⟨w.heap.size, 2, none⟩)) := hdep 32 (by decide) 65 rfl
        have e60 : a.tmps[60]?.getD undef = (.bool true) := hdep 27 (by decide) 60 rfl
        have cl := (HA.out.keep hs' (fun e => e)).low 2 _ (by omega) rfl
        exact plan_do (wanted_of 27 60 true rfl rfl e60) (plan_yield (i := 33) (V := fun _ _ v => v = (.int .i64 m.t : Value)) (.int .i64 m.t) (by go_simp) rfl hK)
      · intro a w' K hs' hdep hfr hK
        have e64 : a.tmps[64]?.getD undef = (.int .i64 m.t) := hdep 31 (by decide) 64 rfl
        have e66 : a.tmps[66]?.getD undef = (.int .i64 m.t) := hdep 33 (by decide) 66 rfl
        have e60 : a.tmps[60]?.getD undef = (.bool true) := hdep 27 (by decide) 60 rfl
        exact plan_do (wanted_of 27 60 true rfl rfl e60) (plan_yield (i := 34) (V := fun _ _ v => v = (.bool true : Value)) (.bool true) (by go_simp) rfl hK)
      · intro a w' K hs' hdep hfr hK
        have e60 : a.tmps[60]?.getD undef = (.bool true) := hdep 27 (by decide) 60 rfl
        have e67 : a.tmps[67]?.getD undef = (.bool true) := hdep 34 (by decide) 67 rfl
        exact plan_do (by rfl) (plan_yield (i := 35) (V := fun _ _ v => v = (.bool true : Value)) (.bool true) (by go_simp) rfl hK)
      · intro a w' K hs' hdep hfr hK
        have e68 : a.tmps[68]?.getD undef = (.bool true) := hdep 35 (by decide) 68 rfl
        exact plan_do (by rfl) (plan_yield (i := 36) (V := fun _ _ v => v = (.bool true : Value)) (.bool true) (by go_simp) rfl hK)
      · intro a w' K hs' hdep hfr hK
        have e69 : a.tmps[69]?.getD undef = (.bool true) := hdep 36 (by decide) 69 rfl
        have f5 := hfr 5 (by decide)
        exact plan_do (wanted_of 36 69 true rfl rfl e69) (plan_yield (i := 37) (V := fun _ _ v => v = (.slice (some ⟨g1, 0, none⟩) n1 c1 : Value)) (.slice (some ⟨g1, 0, none⟩) n1 c1) (by go_simp) rfl hK)
      · intro a w' K hs' hdep hfr hK
        have e70 : a.tmps[70]?.getD undef = (.slice (some ⟨g1, 0, none⟩) n1 c1) := hdep 37 (by decide) 70 rfl
        have e69 : a.tmps[69]?.getD undef = (.bool true) := hdep 36 (by decide) 69 rfl
        have k := run_reads (HRX.out.same hs')
        exact plan_do (wanted_of 36 69 true rfl rfl e69) (plan_yield (i := 38) (V := fun _ _ v => v = (.string ⟨X.toArray⟩ : Value)) (.string ⟨X.toArray⟩) (by go_simp) rfl hK)
      · intro a w' K hs' hdep hfr hK
        have e69 : a.tmps[69]?.getD undef = (.bool true) := hdep 36 (by decide) 69 rfl
        have f7 := hfr 7 (by decide)
        exact plan_do (wanted_of 36 69 true rfl rfl e69) (plan_yield (i := 39) (V := fun _ _ v => v = (.slice (some ⟨g2, 0, none⟩) n2 c2 : Value)) (.slice (some ⟨g2, 0, none⟩) n2 c2) (by go_simp) rfl hK)
      · intro a w' K hs' hdep hfr hK
        have e72 : a.tmps[72]?.getD undef = (.slice (some ⟨g2, 0, none⟩) n2 c2) := hdep 39 (by decide) 72 rfl
        have e69 : a.tmps[69]?.getD undef = (.bool true) := hdep 36 (by decide) 69 rfl
        have k := run_reads (HRY.out.same hs')
        exact plan_do (wanted_of 36 69 true rfl rfl e69) (plan_yield (i := 40) (V := fun _ _ v => v = (.string ⟨X.toArray⟩ : Value)) (.string ⟨X.toArray⟩) (by go_simp) rfl hK)
      · intro a w' K hs' hdep hfr hK
        have e71 : a.tmps[71]?.getD undef = (.string ⟨X.toArray⟩) := hdep 38 (by decide) 71 rfl
        have e73 : a.tmps[73]?.getD undef = (.string ⟨X.toArray⟩) := hdep 40 (by decide) 73 rfl
        have e69 : a.tmps[69]?.getD undef = (.bool true) := hdep 36 (by decide) 69 rfl
        have z1 := strW_list X
        have z2 := strW_list X
        exact plan_do (wanted_of 36 69 true rfl rfl e69) (plan_yield (i := 41) (V := fun _ _ v => v = (.bool true : Value)) (.bool true) (by go_simp) rfl hK)
      · intro a w' K hs' hdep hfr hK
        have e69 : a.tmps[69]?.getD undef = (.bool true) := hdep 36 (by decide) 69 rfl
        have f2 := hfr 2 (by decide)
        exact plan_do (wanted_of 36 69 true rfl rfl e69) (wp_load_row (P := Tryd.prog) 38 (.tmp 2) rfl w.heap.size ((eval_tmp _ _).trans f2) 38 m.cells.toArray (0, 0) _ (hs'.obj HA.out.1 (fun e => e)) Tryd.underlying38 rfl HSA.out (hK _ _ (Keeps.refl _ _) rfl))
      · intro a w' K hs' hdep hfr hK
        have e69 : a.tmps[69]?.getD undef = (.bool true) := hdep 36 (by decide) 69 rfl
        have f3 := hfr 3 (by decide)
        exact plan_do (wanted_of 36 69 true rfl rfl e69) (wp_load_row (P := Tryd.prog) 38 (.tmp 3) rfl w1.heap.size ((eval_tmp _ _).trans f3) 38 q.cells.toArray (0, 0) _ (hs'.obj HB.out.1 (fun e => e)) Tryd.underlying38 rfl HSB.out (hK _ _ (Keeps.refl _ _) rfl))
      · intro a w' K hs' hdep hfr hK
        have e75 : a.tmps[75]?.getD undef = (.agg m.cells.toArray) := hdep 42 (by decide) 75 rfl
        have e76 : a.tmps[76]?.getD undef = (.agg q.cells.toArray) := hdep 43 (by decide) 76 rfl
        have e69 : a.tmps[69]?.getD undef = (.bool true) := hdep 36 (by decide) 69 rfl
        refine plan_do (wanted_of 36 69 true rfl rfl e69) (plan_call 14 #[.agg m.cells.toArray, .agg q.cells.toArray] (by go_simp) ?_)
        refine (sameMsg_any m q w' (HMA.out.same hs') (HMB.out.same hs') HLN.out).mono fun e w'' ⟨b, he, hb, hk⟩ => ⟨_, he, hK _ _ hk ?_⟩
        cases b with
        | true => rfl
        | false => exact absurd (hb.2 HEQ.out) (by simp)
      · intro a w' K hs' hdep hfr hK
        have e74 : a.tmps[74]?.getD undef = (.bool true) := hdep 41 (by decide) 74 rfl
        have e77 : a.tmps[77]?.getD undef = (.bool true) := hdep 44 (by decide) 77 rfl
        have e69 : a.tmps[69]?.getD undef = (.bool true) := hdep 36 (by decide) 69 rfl
        exact plan_do (wanted_of 36 69 true rfl rfl e69) (plan_yield (i := 45) (V := fun _ _ v => v = (.bool true : Value)) (.bool true) (by go_simp) rfl hK)
      · intro a w' K hs' hdep hfr hK
        have e69 : a.tmps[69]?.getD undef = (.bool true) := hdep 36 (by decide) 69 rfl
        have e78 : a.tmps[78]?.getD undef = (.bool true) := hdep 45 (by decide) 78 rfl
        exact plan_do (by rfl) (plan_yield (i := 46) (V := fun _ _ v => v = (.bool true : Value)) (.bool true) (by go_simp) rfl hK)
      · intro a w' K hs' hdep hfr hK
        have e79 : a.tmps[79]?.getD undef = (.bool true) := hdep 46 (by decide) 79 rfl
        exact plan_do (by rfl) (plan_yield (i := 47) (V := fun _ _ v => v = (.bool true : Value)) (.bool true) (by go_simp) rfl hK)
    intro a wz hkz hdef hsz hv hfr
    have e4 : a.tmps[4]?.getD undef = (.bool true) := hv 47 4 rfl
    have he := act_eq a _ [some 33, some 34, some 35, some 36, some 37, some 38, some 39, some 40, some 41, some 42, some 43, some 44, some 45, some 46, some 47, some 48, some 49, some 50, some 51, some 52, some 53, some 54, some 55, some 56, some 57, some 58, some 59, some 60, some 61, some 62, some 63, some 64, some 65, some 66, some 67, some 68, some 69, some 70, some 71, some 72, some 73, some 74, some 75, some 76, some 77, some 78, some 79, some 4] 80 rfl hsz hdef hfr (fun d => a.tmps[d]?.getD undef) (fun _ _ => rfl)
    obtain ⟨v33, h33⟩ : ∃ v, a.tmps[33]?.getD undef = v := ⟨_, rfl⟩
    obtain ⟨v34, h34⟩ : ∃ v, a.tmps[34]?.getD undef = v := ⟨_, rfl⟩
    obtain ⟨v35, h35⟩ : ∃ v, a.tmps[35]?.getD undef = v := ⟨_, rfl⟩
    obtain ⟨v36, h36⟩ : ∃ v, a.tmps[36]?.getD undef = v := ⟨_, rfl⟩
    obtain ⟨v37, h37⟩ : ∃ v, a.tmps[37]?.getD undef = v := ⟨_, rfl⟩
    obtain ⟨v38, h38⟩ : ∃ v, a.tmps[38]?.getD undef = v := ⟨_, rfl⟩
    obtain ⟨v39, h39⟩ : ∃ v, a.tmps[39]?.getD undef = v := ⟨_, rfl⟩
    obtain ⟨v40, h40⟩ : ∃ v, a.tmps[40]?.getD undef = v := ⟨_, rfl⟩
    obtain ⟨v41, h41⟩ : ∃ v, a.tmps[41]?.getD undef = v := ⟨_, rfl⟩
    obtain ⟨v42, h42⟩ : ∃ v, a.tmps[42]?.getD undef = v := ⟨_, rfl⟩
    obtain ⟨v43, h43⟩ : ∃ v, a.tmps[43]?.getD undef = v := ⟨_, rfl⟩
    obtain ⟨v44, h44⟩ : ∃ v, a.tmps[44]?.getD undef = v := ⟨_, rfl⟩
    obtain ⟨v45, h45⟩ : ∃ v, a.tmps[45]?.getD undef = v := ⟨_, rfl⟩
    obtain ⟨v46, h46⟩ : ∃ v, a.tmps[46]?.getD undef = v := ⟨_, rfl⟩
    obtain ⟨v47, h47⟩ : ∃ v, a.tmps[47]?.getD undef = v := ⟨_, rfl⟩
    obtain ⟨v48, h48⟩ : ∃ v, a.tmps[48]?.getD undef = v := ⟨_, rfl⟩
    obtain ⟨v49, h49⟩ : ∃ v, a.tmps[49]?.getD undef = v := ⟨_, rfl⟩
    obtain ⟨v50, h50⟩ : ∃ v, a.tmps[50]?.getD undef = v := ⟨_, rfl⟩
    obtain ⟨v51, h51⟩ : ∃ v, a.tmps[51]?.getD undef = v := ⟨_, rfl⟩
    obtain ⟨v52, h52⟩ : ∃ v, a.tmps[52]?.getD undef = v := ⟨_, rfl⟩
    obtain ⟨v53, h53⟩ : ∃ v, a.tmps[53]?.getD undef = v := ⟨_, rfl⟩
    obtain ⟨v54, h54⟩ : ∃ v, a.tmps[54]?.getD undef = v := ⟨_, rfl⟩
    obtain ⟨v55, h55⟩ : ∃ v, a.tmps[55]?.getD undef = v := ⟨_, rfl⟩
    obtain ⟨v56, h56⟩ : ∃ v, a.tmps[56]?.getD undef = v := ⟨_, rfl⟩
    obtain ⟨v57, h57⟩ : ∃ v, a.tmps[57]?.getD undef = v := ⟨_, rfl⟩
    obtain ⟨v58, h58⟩ : ∃ v, a.tmps[58]?.getD undef = v := ⟨_, rfl⟩
    obtain ⟨v59, h59⟩ : ∃ v, a.tmps[59]?.getD undef = v := ⟨_, rfl⟩
    obtain ⟨v60, h60⟩ : ∃ v, a.tmps[60]?.getD undef = v := ⟨_, rfl⟩
    obtain ⟨v61, h61⟩ : ∃ v, a.tmps[61]?.getD undef = v := ⟨_, rfl⟩
    obtain ⟨v62, h62⟩ : ∃ v, a.tmps[62]?.getD undef = v := ⟨_, rfl⟩
    obtain ⟨v63, h63⟩ : ∃ v, a.tmps[63]?.getD undef = v := ⟨_, rfl⟩
    obtain ⟨v64, h64⟩ : ∃ v, a.tmps[64]?.getD undef = v := ⟨_, rfl⟩
    obtain ⟨v65, h65⟩ : ∃ v, a.tmps[65]?.getD undef = v := ⟨_, rfl⟩
    obtain ⟨v66, h66⟩ : ∃ v, a.tmps[66]?.getD undef = v := ⟨_, rfl⟩
    obtain ⟨v67, h67⟩ : ∃ v, a.tmps[67]?.getD undef = v := ⟨_, rfl⟩
    obtain ⟨v68, h68⟩ : ∃ v, a.tmps[68]?.getD undef = v := ⟨_, rfl⟩
    obtain ⟨v69, h69⟩ : ∃ v, a.tmps[69]?.getD undef = v := ⟨_, rfl⟩
    obtain ⟨v70, h70⟩ : ∃ v, a.tmps[70]?.getD undef = v := ⟨_, rfl⟩
    obtain ⟨v71, h71⟩ : ∃ v, a.tmps[71]?.getD undef = v := ⟨_, rfl⟩
    obtain ⟨v72, h72⟩ : ∃ v, a.tmps[72]?.getD undef = v := ⟨_, rfl⟩
    obtain ⟨v73, h73⟩ : ∃ v, a.tmps[73]?.getD undef = v := ⟨_, rfl⟩
    obtain ⟨v74, h74⟩ : ∃ v, a.tmps[74]?.getD undef = v := ⟨_, rfl⟩
    obtain ⟨v75, h75⟩ : ∃ v, a.tmps[75]?.getD undef = v := ⟨_, rfl⟩
    obtain ⟨v76, h76⟩ : ∃ v, a.tmps[76]?.getD undef = v := ⟨_, rfl⟩
    obtain ⟨v77, h77⟩ : ∃ v, a.tmps[77]?.getD undef = v := ⟨_, rfl⟩
    obtain ⟨v78, h78⟩ : ∃ v, a.tmps[78]?.getD undef = v := ⟨_, rfl⟩
    obtain ⟨v79, h79⟩ : ∃ v, a.tmps[79]?.getD undef = v := ⟨_, rfl⟩
    simp only [putAll, e4, h33, h34, h35, h36, h37, h38, h39, h40, h41, h42, h43, h44, h45, h46, h47, h48, h49, h50, h51, h52, h53, h54, h55, h56, h57, h58, h59, h60, h61, h62, h63, h64, h65, h66, h67, h68, h69, h70, h71, h72, h73, h74, h75, h76, h77, h78, h79, List.setIfInBounds_toArray, List.set_cons_zero, List.set_cons_succ] at he
    clear e4 h33 h34 h35 h36 h37 h38 h39 h40 h41 h42 h43 h44 h45 h46 h47 h48 h49 h50 h51 h52 h53 h54 h55 h56 h57 h58 h59 h60 h61 h62 h63 h64 h65 h66 h67 h68 h69 h70 h71 h72 h73 h74 h75 h76 h77 h78 h79 hdef hsz hv hfr
    subst he
    have HKZ := Lib.hid hkz
    clear hkz
    go_wp2
    go_ret
    exact ⟨rfl, HK7.out.trans HKZ.out (fun _ _ e => e)⟩
  · have HEQ : Hid (¬ m.Eqv q) := Lib.hid (fun e => hd (HINJ.out.2 e))
    have HXY := Lib.hid hd
    clear hd
    go_wp2
    refine wp_region_do [[], [0], [1], [2], [3], [4, 3], [5, 3], [6, 3], [3, 7], [8, 3], [9], [10, 9], [11, 9], [12, 9], [9], [14, 9], [13, 15, 9], [9, 16], [17, 9], [18], [19, 18], [20, 18], [21, 18], [18], [23, 18], [22, 24, 18], [18, 25], [26, 18], [27], [28, 27], [29, 27], [30, 27], [27], [32, 27], [31, 33, 27], [27, 34], [35, 27], [36], [37, 36], [36], [39, 36], [38, 40, 36], [36], [36], [42, 43, 36, 36], [41, 44, 36], [36, 45], [46, 44, 0, 1, 2, 3, 4, 5, 6, 7, 8, 9, 10, 11, 12, 13, 14, 15, 16, 17, 18, 19, 20, 21, 22, 23, 24, 25, 26, 27, 28, 29, 30, 31, 32, 33, 34, 35, 36, 37, 38, 39, 40, 41, 42, 43, 44, 45, 46]]
      [some 33, some 34, some 35, some 36, some 37, some 38, some 39, some 40, some 41, some 42, some 43, some 44, some 45, some 46, some 47, some 48, some 49, some 50, some 51, some 52, some 53, some 54, some 55, some 56, some 57, some 58, some 59, some 60, some 61, some 62, some 63, some 64, some 65, some 66, some 67, some 68, some 69, some 70, some 71, some 72, some 73, some 74, some 75, some 76, some 77, some 78, some 79, some 4]
      [.is (.slice (some ⟨g1, 0, none⟩) n1 c1), .is (.int .i64 (n1 : Int)), .is (.bool true), .is (.bool true), .is (.slice (some ⟨g1, 0, none⟩) n1 c1), .is (.pointer (some ⟨g1, 0, none⟩)), .is (.int .u8 3), .is (.bool true), .is (.bool true), .is (.bool true), .is (.slice (some ⟨g1, 0, none⟩) n1 c1), .is (.pointer (some ⟨g1, 1, none⟩)), .is (.int .u8 m.k), .is (.int .i64 m.k), .is (.pointer (some ⟨w.heap.size, 0, none⟩)), .is (.int .i64 m.k), .is (.bool true), .is (.bool true), .is (.bool true), .is (.slice (some ⟨g1, 0, none⟩) n1 c1), .is (.pointer (some ⟨g1, 2, none⟩)), .is (.int .u8 m.f), .is (.int .i64 m.f), .is (.pointer (some ⟨w.heap.size, 1, none⟩)), .is (.int .i64 m.f), .is (.bool true), .is (.bool true), .is (.bool true), .is (.slice (some ⟨g1, 0, none⟩) n1 c1), .is (.pointer (some ⟨g1, 3, none⟩)), .is (.int .u8 m.t), .is (.int .i64 m.t), .is (.pointer (some ⟨w.heap.size, 2, none⟩)), .is (.int .i64 m.t), .is (.bool true), .is (.bool true), .is (.bool true), .is (.slice (some ⟨g1, 0, none⟩) n1 c1), .is (.string ⟨X.toArray⟩), .is (.slice (some ⟨g2, 0, none⟩) n2 c2), .is (.string ⟨Y.toArray⟩), .is (.bool false), .is (.agg m.cells.toArray), .is (.agg q.cells.toArray), .is (.bool false), .is (.bool true), .is (.bool true), .is (.bool true)]
      9 _ _ 80 48 (by kernel_rfl) (by rfl) (by rfl) (by kernel_rfl) (by kernel_rfl) (by decide) ?_ ?_
    · refine ⟨?_, ?_, ?_, ?_, ?_, ?_, ?_, ?_, ?_, ?_, ?_, ?_, ?_, ?_, ?_, ?_, ?_, ?_, ?_, ?_, ?_, ?_, ?_, ?_, ?_, ?_, ?_, ?_, ?_, ?_, ?_, ?_, ?_, ?_, ?_, ?_, ?_, ?_, ?_, ?_, ?_, ?_, ?_, ?_, ?_, ?_, ?_, ?_, trivial⟩
      · intro a w' K hs' hdep hfr hK
        have f5 := hfr 5 (by decide)
        exact plan_do (by rfl) (plan_yield (i := 0) (V := fun _ _ v => v = (.slice (some ⟨g1, 0, none⟩) n1 c1 : Value)) (.slice (some ⟨g1, 0, none⟩) n1 c1) (by go_simp) rfl hK)
      · intro a w' K hs' hdep hfr hK
        have e33 : a.tmps[33]?.getD undef = (.slice (some ⟨g1, 0, none⟩) n1 c1) := hdep 0 (by decide) 33 rfl
        exact plan_do (by rfl) (plan_yield (i := 1) (V := fun _ _ v => v = (.int .i64 (n1 : Int) : Value)) (.int .i64 (n1 : Int)) (by go_simp) rfl hK)
      · intro a w' K hs' hdep hfr hK
        have e34 : a.tmps[34]?.getD undef = (.int .i64 (n1 : Int)) := hdep 1 (by decide) 34 rfl
        have hn := HNL.out
        exact plan_do (by rfl) (plan_yield (i := 2) (V := fun _ _ v => v = (.bool true : Value)) (.bool true) (by go_simp) rfl hK)
      · intro a w' K hs' hdep hfr hK
        have e35 : a.tmps[35]?.getD undef = (.bool true) := hdep 2 (by decide) 35 rfl
        exact plan_do (by rfl) (plan_yield (i := 3) (V := fun _ _ v => v = (.bool true : Value)) (.bool true) (by go_simp) rfl hK)
      · intro a w' K hs' hdep hfr hK
        have e36 : a.tmps[36]?.getD undef = (.bool true) := hdep 3 (by decide) 36 rfl
        have f5 := hfr 5 (by decide)
        exact plan_do (wanted_of 3 36 true rfl rfl e36) (plan_yield (i := 4) (V := fun _ _ v => v = (.slice (some ⟨g1, 0, none⟩) n1 c1 : Value)) (.slice (some ⟨g1, 0, none⟩) n1 c1) (by go_simp) rfl hK)
      · intro a w' K hs' hdep hfr hK
        have e37 : a.tmps[37]?.getD undef = (.slice (some ⟨g1, 0, none⟩) n1 c1) := hdep 4 (by decide) 37 rfl
        have e36 : a.tmps[36]?.getD undef = (.bool true) := hdep 3 (by decide) 36 rfl
        have hn := HNL.out
        have hn2 : (0 : Int) < (n1 : Int) := by omega
        have hn3 : ¬ n1 = 0 := by omega
        exact plan_do (wanted_of 3 36 true rfl rfl e36) (plan_yield (i := 5) (V := fun _ _ v => v = (.pointer (some ⟨g1, 0, none⟩) : Value)) (.pointer (some ⟨g1, 0, none⟩)) (by go_simp) rfl hK)
      · intro a w' K hs' hdep hfr hK
        have e38 : a.tmps[38]?.getD undef = (.pointer (some ⟨g1, 0, none⟩)) := hdep 5 (by decide) 38 rfl
        have e36 : a.tmps[36]?.getD undef = (.bool true) := hdep 3 (by decide) 36 rfl
        have cl := (HXC.out _ hs').1
        exact plan_do (wanted_of 3 36 true rfl rfl e36) (plan_yield (i := 6) (V := fun _ _ v => v = (.int .u8 3 : Value)) (.int .u8 3) (by go_simp) rfl hK)
      · intro a w' K hs' hdep hfr hK
        have e39 : a.tmps[39]?.getD undef = (.int .u8 3) := hdep 6 (by decide) 39 rfl
        have e36 : a.tmps[36]?.getD undef = (.bool true) := hdep 3 (by decide) 36 rfl
        exact plan_do (wanted_of 3 36 true rfl rfl e36) (plan_yield (i := 7) (V := fun _ _ v => v = (.bool true : Value)) (.bool true) (by go_simp) rfl hK)
      · intro a w' K hs' hdep hfr hK
        have e36 : a.tmps[36]?.getD undef = (.bool true) := hdep 3 (by decide) 36 rfl
        have e40 : a.tmps[40]?.getD undef = (.bool true) := hdep 7 (by decide) 40 rfl
        exact plan_do (by rfl) (plan_yield (i := 8) (V := fun _ _ v => v = (.bool true : Value)) (.bool true) (by go_simp) rfl hK)
      · intro a w' K hs' hdep hfr hK
        have e41 : a.tmps[41]?.getD undef = (.bool true) := hdep 8 (by decide) 41 rfl
        exact plan_do (by rfl) (plan_yield (i := 9) (V := fun _ _ v => v = (.bool true : Value)) (.bool true) (by go_simp) rfl hK)
      · intro a w' K hs' hdep hfr hK
        have e42 : a.tmps[42]?.getD undef = (.bool true) := hdep 9 (by decide) 42 rfl
        have f5 := hfr 5 (by decide)
        exact plan_do (wanted_of 9 42 true rfl rfl e42) (plan_yield (i := 10) (V := fun _ _ v => v = (.slice (some ⟨g1, 0, none⟩) n1 c1 : Value)) (.slice (some ⟨g1, 0, none⟩) n1 c1) (by go_simp) rfl hK)
      · intro a w' K hs' hdep hfr hK
        have e43 : a.tmps[43]?.getD undef = (.slice (some ⟨g1, 0, none⟩) n1 c1) := hdep 10 (by decide) 43 rfl
        have e42 : a.tmps[42]?.getD undef = (.bool true) := hdep 9 (by decide) 42 rfl
        have hn := HNL.out
        have hn2 : (1 : Int) < (n1 : Int) := by omega
        exact plan_do (wanted_of 9 42 true rfl rfl e42) (plan_yield (i := 11) (V := fun _ _ v => v = (.pointer (some ⟨g1, 1, none⟩) : Value)) (.pointer (some ⟨g1, 1, none⟩)) (by go_simp) rfl hK)
      · intro a w' K hs' hdep hfr hK
        have e44 : a.tmps[44]?.getD undef = (.pointer (some ⟨g1, 1, none⟩)) := hdep 11 (by decide) 44 rfl
        have e42 : a.tmps[42]?.getD undef = (.bool true) := hdep 9 (by decide) 42 rfl
        have cl := (HXC.out _ hs').2.1
        exact plan_do (wanted_of 9 42 true rfl rfl e42) (plan_yield (i := 12) (V := fun _ _ v => v = (.int .u8 m.k : Value)) (.int .u8 m.k) (by go_simp) rfl hK)
      · intro a w' K hs' hdep hfr hK
        have e45 : a.tmps[45]?.getD undef = (.int .u8 m.k) := hdep 12 (by decide) 45 rfl
        have e42 : a.tmps[42]?.getD undef = (.bool true) := hdep 9 (by decide) 42 rfl
        have wj := HWJ.out.1
        exact plan_do (wanted_of 9 42 true rfl rfl e42) (plan_yield (i := 13) (V := fun _ _ v => v = (.int .i64 m.k : Value)) (.int .i64 m.k) (by go_simp) rfl hK)
      · intro a w' K hs' hdep hfr hK
        have e42 : a.tmps[42]?.getD undef = (.bool true) := hdep 9 (by decide) 42 rfl
        have f2 := hfr 2 (by decide)
        exact plan_do (wanted_of 9 42 true rfl rfl e42) (plan_yield (i := 14) (V := fun _ _ v => v = (.pointer (some ⟨w.heap.size, 0, none⟩) : Value)) (.pointer (some ⟨w.heap.size, 0, none⟩)) (by go_simp) rfl hK)
      · intro a w' K hs' hdep hfr hK
        have e47 : a.tmps[47]?.getD undef = (.pointer (some ⟨w.heap.size, 0, none⟩)) := hdep 14 (by decide) 47 rfl
        have e42 : a.tmps[42]?.getD undef = (.bool true) := hdep 9 (by decide) 42 rfl
        have cl := (HA.out.keep hs' (fun e => e)).low 0 _ (by omega) rfl
        exact plan_do (wanted_of 9 42 true rfl rfl e42) (plan_yield (i := 15) (V := fun _ _ v => v = (.int .i64 m.k : Value)) (.int .i64 m.k) (by go_simp) rfl hK)
      · intro a w' K hs' hdep hfr hK
        have e46 : a.tmps[46]?.getD undef = (.int .i64 m.k) := hdep 13 (by decide) 46 rfl
        have e48 : a.tmps[48]?.getD undef = (.int .i64 m.k) := hdep 15 (by decide) 48 rfl
        have e42 : a.tmps[42]?.getD undef = (.bool true) := hdep 9 (by decide) 42 rfl
        exact plan_do (wanted_of 9 42 true rfl rfl e42) (plan_yield (i := 16) (V := fun _ _ v => v = (.bool true : Value)) (.bool true) (by go_simp) rfl hK)
      · intro a w' K hs' hdep hfr hK
        have e42 : a.tmps[42]?.getD undef = (.bool true) := hdep 9 (by decide) 42 rfl
        have e49 : a.tmps[49]?.getD undef = (.bool true) := hdep 16 (by decide) 49 rfl
        exact plan_do (by rfl) (plan_yield (i := 17) (V := fun _ _ v => v = (.bool true : Value)) (.bool true) (by go_simp) rfl hK)
      · intro a w' K hs' hdep hfr hK
        have e50 : a.tmps[50]?.getD undef = (.bool true) := hdep 17 (by decide) 50 rfl
        exact plan_do (by rfl) (plan_yield (i := 18) (V := fun _ _ v => v = (.bool true : Value)) (.bool true) (by go_simp) rfl hK)
      · intro a w' K hs' hdep hfr hK
        have e51 : a.tmps[51]?.getD undef = (.bool true) := hdep 18 (by decide) 51 rfl
        have f5 := hfr 5 (by decide)
        exact plan_do (wanted_of 18 51 true rfl rfl e51) (plan_yield (i := 19) (V := fun _ _ v => v = (.slice (some ⟨g1, 0, none⟩) n1 c1 : Value)) (.slice (some ⟨g1, 0, none⟩) n1 c1) (by go_simp) rfl hK)
      · intro a w' K hs' hdep hfr hK
        have e52 : a.tmps[52]?.getD undef = (.slice (some ⟨g1, 0, none⟩) n1 c1) := hdep 19 (by decide) 52 rfl
        have e51 : a.tmps[51]?.getD undef = (.bool true) := hdep 18 (by decide) 51 rfl
        have hn := HNL.out
        have hn2 : (2 : Int) < (n1 : Int) := by omega
        exact plan_do (wanted_of 18 51 true rfl rfl e51) (plan_yield (i := 20) (V := fun _ _ v => v = (.pointer (some ⟨g1, 2, none⟩) : Value)) (.pointer (some ⟨g1, 2, none⟩)) (by go_simp) rfl hK)
      · intro a w' K hs' hdep hfr hK
        have e53 : a.tmps[53]?.getD undef = (.pointer (some ⟨g1, 2, none⟩)) := hdep 20 (by decide) 53 rfl
        have e51 : a.tmps[51]?.getD undef = (.bool true) := hdep 18 (by decide) 51 rfl
        have cl := (HXC.out _ hs').2.2.1
        exact plan_do (wanted_of 18 51 true rfl rfl e51) (plan_yield (i := 21) (V := fun _ _ v => v = (.int .u8 m.f : Value)) (.int .u8 m.f) (by go_simp) rfl hK)
      · intro a w' K hs' hdep hfr hK
        have e54 : a.tmps[54]?.getD undef = (.int .u8 m.f) := hdep 21 (by decide) 54 rfl
        have e51 : a.tmps[51]?.getD undef = (.bool true) := hdep 18 (by decide) 51 rfl
        have wj := HWJ.out.2.1
        exact plan_do (wanted_of 18 51 true rfl rfl e51) (plan_yield (i := 22) (V := fun _ _ v => v = (.int .i64 m.f : Value)) (.int .i64 m.f) (by go_simp) rfl hK)
      · intro a w' K hs' hdep hfr hK
        have e51 : a.tmps[51]?.getD undef = (.bool true) := hdep 18 (by decide) 51 rfl
        have f2 := hfr 2 (by decide)
        exact plan_do (wanted_of 18 51 true rfl rfl e51) (plan_yield (i := 23) (V := fun _ _ v => v = (.pointer (some ⟨w.heap.size, 1, none⟩) : Value)) (.pointer (some ⟨w.heap.size, 1, none⟩)) (by go_simp) rfl hK)
      · intro a w' K hs' hdep hfr hK
        have e56 : a.tmps[56]?.getD undef = (.pointer (some ⟨w.heap.size, 1, none⟩)) := hdep 23 (by decide) 56 rfl
        have e51 : a.tmps[51]?.getD undef = (.bool true) := hdep 18 (by decide) 51 rfl
        have cl := (HA.out.keep hs' (fun e => e)).low 1 _ (by omega) rfl
        exact plan_do (wanted_of 18 51 true rfl rfl e51) (plan_yield (i := 24) (V := fun _ _ v => v = (.int .i64 m.f : Value)) (.int .i64 m.f) (by go_simp) rfl hK)
      · intro a w' K hs' hdep hfr hK
        have e55 : a.tmps[55]?.getD undef = (.int .i64 m.f) := hdep 22 (by decide) 55 rfl
        have e57 : a.tmps[57]?.getD undef = (.int .i64 m.f) := hdep 24 (by decide) 57 rfl
        have e51 : a.tmps[51]?.getD undef = (.bool true) := hdep 18 (by decide) 51 rfl
        exact plan_do (wanted_of 18 51 true rfl rfl e51) (plan_yield (i := 25) (V := fun _ _ v => v = (.bool true : Value)) (.bool true) (by go_simp) rfl hK)
      · intro a w' K hs' hdep hfr hK
        have e51 : a.tmps[51]?.getD undef = (.bool true) := hdep 18 (by decide) 51 rfl
        have e58 : a.tmps[58]?.getD undef = (.bool true) := hdep 25 (by decide) 58 rfl
        exact plan_do (by rfl) (plan_yield (i := 26) (V := fun _ _ v => v = (.bool true : Value)) (.bool true) (by go_simp) rfl hK)
      · intro a w' K hs' hdep hfr hK
        have e59 : a.tmps[59]?.getD undef = (.bool true) := hdep 26 (by decide) 59 rfl
        exact plan_do (by rfl) (plan_yield (i := 27) (V := fun _ _ v => v = (.bool true : Value)) (.bool true) (by go_simp) rfl hK)
      · intro a w' K hs' hdep hfr hK
        have e60 : a.tmps[60]?.getD undef = (.bool true) := hdep 27 (by decide) 60 rfl
        have f5 := hfr 5 (by decide)
        exact plan_do (wanted_of 27 60 true rfl rfl e60) (plan_yield (i := 28) (V := fun _ _ v => v = (.slice (some ⟨g1, 0, none⟩) n1 c1 : Value)) (.slice (some ⟨g1, 0, none⟩) n1 c1) (by go_simp) rfl hK)
      · intro a w' K hs' hdep hfr hK
        have e61 : a.tmps[61]?.getD undef = (.slice (some ⟨g1, 0, none⟩) n1 c1) := hdep 28 (by decide) 61 rfl
        have e60 : a.tmps[60]?.getD undef = (.bool true) := hdep 27 (by decide) 60 rfl
        have hn := HNL.out
        have hn2 : (3 : Int) < (n1 : Int) := by omega
        exact plan_do (wanted_of 27 60 true rfl rfl e60) (plan_yield (i := 29) (V := fun _ _ v => v = (.pointer (some ⟨g1, 3, none⟩) : Value)) (.pointer (some ⟨g1, 3, none⟩)) (by go_simp) rfl hK)
      · intro a w' K hs' hdep hfr hK
        have e62 : a.tmps[62]?.getD undef = (.pointer (some ⟨g1, 3, none⟩)) := hdep 29 (by decide) 62 rfl
        have e60 : a.tmps[60]?.getD undef = (.bool true) := hdep 27 (by decide) 60 rfl
        have cl := (HXC.out _ hs').2.2.2
        exact plan_do (wanted_of 27 60 true rfl rfl e60) (plan_yield (i := 30) (V := fun _ _ v => v = (.int .u8 m.t : Value)) (.int .u8 m.t) (by go_simp) rfl hK)
      · intro a w' K hs' hdep hfr hK
        have e63 : a.tmps[63]?.getD undef = (.int .u8 m.t) := hdep 30 (by decide) 63 rfl
        have e60 : a.tmps[60]?.getD undef = (.bool true) := hdep 27 (by decide) 60 rfl
        have wj := HWJ.out.2.2
        exact plan_do (wanted_of 27 60 true rfl rfl e60) (plan_yield (i := 31) (V := fun _ _ v => v = (.int .i64 m.t : Value)) (.int .i64 m.t) (by go_simp) rfl hK)
      · intro a w' K hs' hdep hfr hK
        have e60 : a.tmps[60]?.getD undef = (.bool true) := hdep 27 (by decide) 60 rfl
        have f2 := hfr 2 (by decide)
        exact plan_do (wanted_of 27 60 true rfl rfl e60) (plan_yield (i := 32) (V := fun _ _ v => v = (.pointer (some ⟨w.heap.size, 2, none⟩) : Value)) (.pointer (some ⟨w.heap.size, 2, none⟩)) (by go_simp) rfl hK)
      · intro a w' K hs' hdep hfr hK
        have e65 : a.tmps[65]?.getD undef = (.pointer (some ⟨w.heap.size, 2, none⟩)) := hdep 32 (by decide) 65 rfl
        have e60 : a.tmps[60]?.getD undef = (.bool true) := hdep 27 (by decide) 60 rfl
        have cl := (HA.out.keep hs' (fun e => e)).low 2 _ (by omega) rfl
        exact plan_do (wanted_of 27 60 true rfl rfl e60) (plan_yield (i := 33) (V := fun _ _ v => v = (.int .i64 m.t : Value)) (.int .i64 m.t) (by go_simp) rfl hK)
      · intro a w' K hs' hdep hfr hK
        have e64 : a.tmps[64]?.getD undef = (.int .i64 m.t) := hdep 31 (by decide) 64 rfl
        have e66 : a.tmps[66]?.getD undef = (.int .i64 m.t) := hdep 33 (by decide) 66 rfl
        have e60 : a.tmps[60]?.getD undef = (.bool true) := hdep 27 (by decide) 60 rfl
        exact plan_do (wanted_of 27 60 true rfl rfl e60) (plan_yield (i := 34) (V := fun _ _ v => v = (.bool true : Value)) (.bool true) (by go_simp) rfl hK)
      · intro a w' K hs' hdep hfr hK
        have e60 : a.tmps[60]?.getD undef = (.bool true) := hdep 27 (by decide) 60 rfl
        have e67 : a.tmps[67]?.getD undef = (.bool true) := hdep 34 (by decide) 67 rfl
        exact plan_do (by rfl) (plan_yield (i := 35) (V := fun _ _ v => v = (.bool true : Value)) (.bool true) (by go_simp) rfl hK)
      · intro a w' K hs' hdep hfr hK
        have e68 : a.tmps[68]?.getD undef = (.bool true) := hdep 35 (by decide) 68 rfl
        exact plan_do (by rfl) (plan_yield (i := 36) (V := fun _ _ v => v = (.bool true : Value)) (.bool true) (by go_simp) rfl hK)
      · intro a w' K hs' hdep hfr hK
        have e69 : a.tmps[69]?.getD undef = (.bool true) := hdep 36 (by decide) 69 rfl
        have f5 := hfr 5 (by decide)
        exact plan_do (wanted_of 36 69 true rfl rfl e69) (plan_yield (i := 37) (V := fun _ _ v => v = (.slice (some ⟨g1, 0, none⟩) n1 c1 : Value)) (.slice (some ⟨g1, 0, none⟩) n1 c1) (by go_simp) rfl hK)
      · intro a w' K hs' hdep hfr hK
        have e70 : a.tmps[70]?.getD undef = (.slice (some ⟨g1, 0, none⟩) n1 c1) := hdep 37 (by decide) 70 rfl
        have e69 : a.tmps[69]?.getD undef = (.bool true) := hdep 36 (by decide) 69 rfl
        have k := run_reads (HRX.out.same hs')
        exact plan_do (wanted_of 36 69 true rfl rfl e69) (plan_yield (i := 38) (V := fun _ _ v => v = (.string ⟨X.toArray⟩ : Value)) (.string ⟨X.toArray⟩) (by go_simp) rfl hK)
      · intro a w' K hs' hdep hfr hK
        have e69 : a.tmps[69]?.getD undef = (.bool true) := hdep 36 (by decide) 69 rfl
        have f7 := hfr 7 (by decide)
        exact plan_do (wanted_of 36 69 true rfl rfl e69) (plan_yield (i := 39) (V := fun _ _ v => v = (.slice (some ⟨g2, 0, none⟩) n2 c2 : Value)) (.slice (some ⟨g2, 0, none⟩) n2 c2) (by go_simp) rfl hK)
      · intro a w' K hs' hdep hfr hK
        have e72 : a.tmps[72]?.getD undef = (.slice (some ⟨g2, 0, none⟩) n2 c2) := hdep 39 (by decide) 72 rfl
        have e69 : a.tmps[69]?.getD undef = (.bool true) := hdep 36 (by decide) 69 rfl
        have k := run_reads (HRY.out.same hs')
        exact plan_do (wanted_of 36 69 true rfl rfl e69) (plan_yield (i := 40) (V := fun _ _ v => v = (.string ⟨Y.toArray⟩ : Value)) (.string ⟨Y.toArray⟩) (by go_simp) rfl hK)
      · intro a w' K hs' hdep hfr hK
        have e71 : a.tmps[71]?.getD undef = (.string ⟨X.toArray⟩) := hdep 38 (by decide) 71 rfl
        have e73 : a.tmps[73]?.getD undef = (.string ⟨Y.toArray⟩) := hdep 40 (by decide) 73 rfl
        have e69 : a.tmps[69]?.getD undef = (.bool true) := hdep 36 (by decide) 69 rfl
        have z1 := strW_list X
        have z2 := strW_list Y
        have z3 := HXY.out
        have z4 : (X == Y) = false := by simpa using z3
        exact plan_do (wanted_of 36 69 true rfl rfl e69) (plan_yield (i := 41) (V := fun _ _ v => v = (.bool false : Value)) (.bool false) (by go_simp) rfl hK)
      · intro a w' K hs' hdep hfr hK
        have e69 : a.tmps[69]?.getD undef = (.bool true) := hdep 36 (by decide) 69 rfl
        have f2 := hfr 2 (by decide)
        exact plan_do (wanted_of 36 69 true rfl rfl e69) (wp_load_row (P := Tryd.prog) 38 (.tmp 2) rfl w.heap.size ((eval_tmp _ _).trans f2) 38 m.cells.toArray (0, 0) _ (hs'.obj HA.out.1 (fun e => e)) Tryd.underlying38 rfl HSA.out (hK _ _ (Keeps.refl _ _) rfl))
      · intro a w' K hs' hdep hfr hK
        have e69 : a.tmps[69]?.getD undef = (.bool true) := hdep 36 (by decide) 69 rfl
        have f3 := hfr 3 (by decide)
        exact plan_do (wanted_of 36 69 true rfl rfl e69) (wp_load_row (P := Tryd.prog) 38 (.tmp 3) rfl w1.heap.size ((eval_tmp _ _).trans f3) 38 q.cells.toArray (0, 0) _ (hs'.obj HB.out.1 (fun e => e)) Tryd.underlying38 rfl HSB.out (hK _ _ (Keeps.refl _ _) rfl))
      · intro a w' K hs' hdep hfr hK
        have e75 : a.tmps[75]?.getD undef = (.agg m.cells.toArray) := hdep 42 (by decide) 75 rfl
        have e76 : a.tmps[76]?.getD undef = (.agg q.cells.toArray) := hdep 43 (by decide) 76 rfl
        have e69 : a.tmps[69]?.getD undef = (.bool true) := hdep 36 (by decide) 69 rfl
        refine plan_do (wanted_of 36 69 true rfl rfl e69) (plan_call 14 #[.agg m.cells.toArray, .agg q.cells.toArray] (by go_simp) ?_)
        refine (sameMsg_any m q w' (HMA.out.same hs') (HMB.out.same hs') HLN.out).mono fun e w'' ⟨b, he, hb, hk⟩ => ⟨_, he, hK _ _ hk ?_⟩
        cases b with
        | false => rfl
        | true => exact absurd (hb.1 rfl) HEQ.out
      · intro a w' K hs' hdep hfr hK
        have e74 : a.tmps[74]?.getD undef = (.bool false) := hdep 41 (by decide) 74 rfl
        have e77 : a.tmps[77]?.getD undef = (.bool false) := hdep 44 (by decide) 77 rfl
        have e69 : a.tmps[69]?.getD undef = (.bool true) := hdep 36 (by decide) 69 rfl
        exact plan_do (wanted_of 36 69 true rfl rfl e69) (plan_yield (i := 45) (V := fun _ _ v => v = (.bool true : Value)) (.bool true) (by go_simp) rfl hK)
      · intro a w' K hs' hdep hfr hK
        have e69 : a.tmps[69]?.getD undef = (.bool true) := hdep 36 (by decide) 69 rfl
        have e78 : a.tmps[78]?.getD undef = (.bool true) := hdep 45 (by decide) 78 rfl
        exact plan_do (by rfl) (plan_yield (i := 46) (V := fun _ _ v => v = (.bool true : Value)) (.bool true) (by go_simp) rfl hK)
      · intro a w' K hs' hdep hfr hK
        have e79 : a.tmps[79]?.getD undef = (.bool true) := hdep 46 (by decide) 79 rfl
        exact plan_do (by rfl) (plan_yield (i := 47) (V := fun _ _ v => v = (.bool true : Value)) (.bool true) (by go_simp) rfl hK)
    intro a wz hkz hdef hsz hv hfr
    have e4 : a.tmps[4]?.getD undef = (.bool true) := hv 47 4 rfl
    have he := act_eq a _ [some 33, some 34, some 35, some 36, some 37, some 38, some 39, some 40, some 41, some 42, some 43, some 44, some 45, some 46, some 47, some 48, some 49, some 50, some 51, some 52, some 53, some 54, some 55, some 56, some 57, some 58, some 59, some 60, some 61, some 62, some 63, some 64, some 65, some 66, some 67, some 68, some 69, some 70, some 71, some 72, some 73, some 74, some 75, some 76, some 77, some 78, some 79, some 4] 80 rfl hsz hdef hfr (fun d => a.tmps[d]?.getD undef) (fun _ _ => rfl)
    obtain ⟨v33, h33⟩ : ∃ v, a.tmps[33]?.getD undef = v := ⟨_, rfl⟩
    obtain ⟨v34, h34⟩ : ∃ v, a.tmps[34]?.getD undef = v := ⟨_, rfl⟩
    obtain ⟨v35, h35⟩ : ∃ v, a.tmps[35]?.getD undef = v := ⟨_, rfl⟩
    obtain ⟨v36, h36⟩ : ∃ v, a.tmps[36]?.getD undef = v := ⟨_, rfl⟩
    obtain ⟨v37, h37⟩ : ∃ v, a.tmps[37]?.getD undef = v := ⟨_, rfl⟩
    obtain ⟨v38, h38⟩ : ∃ v, a.tmps[38]?.getD undef = v := ⟨_, rfl⟩
    obtain ⟨v39, h39⟩ : ∃ v, a.tmps[39]?.getD undef = v := ⟨_, rfl⟩
    obtain ⟨v40, h40⟩ : ∃ v, a.tmps[40]?.getD undef = v := ⟨_, rfl⟩
    obtain ⟨v41, h41⟩ : ∃ v, a.tmps[41]?.getD undef = v := ⟨_, rfl⟩
    obtain ⟨v42, h42⟩ : ∃ v, a.tmps[42]?.getD undef = v := ⟨_, rfl⟩
    obtain ⟨v43, h43⟩ : ∃ v, a.tmps[43]?.getD undef = v := ⟨_, rfl⟩
    obtain ⟨v44, h44⟩ : ∃ v, a.tmps[44]?.getD undef = v := ⟨_, rfl⟩
    obtain ⟨v45, h45⟩ : ∃ v, a.tmps[45]?.getD undef = v := ⟨_, rfl⟩
    obtain ⟨v46, h46⟩ : ∃ v, a.tmps[46]?.getD undef = v := ⟨_, rfl⟩
    obtain ⟨v47, h47⟩ : ∃ v, a.tmps[47]?.getD undef = v := ⟨_, rfl⟩
    obtain ⟨v48, h48⟩ : ∃ v, a.tmps[48]?.getD undef = v := ⟨_, rfl⟩
    obtain ⟨v49, h49⟩ : ∃ v, a.tmps[49]?.getD undef = v := ⟨_, rfl⟩
    obtain ⟨v50, h50⟩ : ∃ v, a.tmps[50]?.getD undef = v := ⟨_, rfl⟩
    obtain ⟨v51, h51⟩ : ∃ v, a.tmps[51]?.getD undef = v := ⟨_, rfl⟩
    obtain ⟨v52, h52⟩ : ∃ v, a.tmps[52]?.getD undef = v := ⟨_, rfl⟩
    obtain ⟨v53, h53⟩ : ∃ v, a.tmps[53]?.getD undef = v := ⟨_, rfl⟩
    obtain ⟨v54, h54⟩ : ∃ v, a.tmps[54]?.getD undef = v := ⟨_, rfl⟩
    obtain ⟨v55, h55⟩ : ∃ v, a.tmps[55]?.getD undef = v := ⟨_, rfl⟩
    obtain ⟨v56, h56⟩ : ∃ v, a.tmps[56]?.getD undef = v := ⟨_, rfl⟩
    obtain ⟨v57, h57⟩ : ∃ v, a.tmps[57]?.getD undef = v := ⟨_, rfl⟩
    obtain ⟨v58, h58⟩ : ∃ v, a.tmps[58]?.getD undef = v := ⟨_, rfl⟩
    obtain ⟨v59, h59⟩ : ∃ v, a.tmps[59]?.getD undef = v := ⟨_, rfl⟩
    obtain ⟨v60, h60⟩ : ∃ v, a.tmps[60]?.getD undef = v := ⟨_, rfl⟩
    obtain ⟨v61, h61⟩ : ∃ v, a.tmps[61]?.getD undef = v := ⟨_, rfl⟩
    obtain ⟨v62, h62⟩ : ∃ v, a.tmps[62]?.getD undef = v := ⟨_, rfl⟩
    obtain ⟨v63, h63⟩ : ∃ v, a.tmps[63]?.getD undef = v := ⟨_, rfl⟩
    obtain ⟨v64, h64⟩ : ∃ v, a.tmps[64]?.getD undef = v := ⟨_, rfl⟩
    obtain ⟨v65, h65⟩ : ∃ v, a.tmps[65]?.getD undef = v := ⟨_, rfl⟩
    obtain ⟨v66, h66⟩ : ∃ v, a.tmps[66]?.getD undef = v := ⟨_, rfl⟩
    obtain ⟨v67, h67⟩ : ∃ v, a.tmps[67]?.getD undef = v := ⟨_, rfl⟩
    obtain ⟨v68, h68⟩ : ∃ v, a.tmps[68]?.getD undef = v := ⟨_, rfl⟩
    obtain ⟨v69, h69⟩ : ∃ v, a.tmps[69]?.getD undef = v := ⟨_, rfl⟩
    obtain ⟨v70, h70⟩ : ∃ v, a.tmps[70]?.getD undef = v := ⟨_, rfl⟩
    obtain ⟨v71, h71⟩ : ∃ v, a.tmps[71]?.getD undef = v := ⟨_, rfl⟩
    obtain ⟨v72, h72⟩ : ∃ v, a.tmps[72]?.getD undef = v := ⟨_, rfl⟩
    obtain ⟨v73, h73⟩ : ∃ v, a.tmps[73]?.getD undef = v := ⟨_, rfl⟩
    obtain ⟨v74, h74⟩ : ∃ v, a.tmps[74]?.getD undef = v := ⟨_, rfl⟩
    obtain ⟨v75, h75⟩ : ∃ v, a.tmps[75]?.getD undef = v := ⟨_, rfl⟩
    obtain ⟨v76, h76⟩ : ∃ v, a.tmps[76]?.getD undef = v := ⟨_, rfl⟩
    obtain ⟨v77, h77⟩ : ∃ v, a.tmps[77]?.getD undef = v := ⟨_, rfl⟩
    obtain ⟨v78, h78⟩ : ∃ v, a.tmps[78]?.getD undef = v := ⟨_, rfl⟩
    obtain ⟨v79, h79⟩ : ∃ v, a.tmps[79]?.getD undef = v := ⟨_, rfl⟩
    simp only [putAll, e4, h33, h34, h35, h36, h37, h38, h39, h40, h41, h42, h43, h44, h45, h46, h47, h48, h49, h50, h51, h52, h53, h54, h55, h56, h57, h58, h59, h60, h61, h62, h63, h64, h65, h66, h67, h68, h69, h70, h71, h72, h73, h74, h75, h76, h77, h78, h79, List.setIfInBounds_toArray, List.set_cons_zero, List.set_cons_succ] at he
    clear e4 h33 h34 h35 h36 h37 h38 h39 h40 h41 h42 h43 h44 h45 h46 h47 h48 h49 h50 h51 h52 h53 h54 h55 h56 h57 h58 h59 h60 h61 h62 h63 h64 h65 h66 h67 h68 h69 h70 h71 h72 h73 h74 h75 h76 h77 h78 h79 hdef hsz hv hfr
    subst he
    have HKZ := Lib.hid hkz
    clear hkz
    go_wp2
    go_ret
    exact ⟨rfl, HK7.out.trans HKZ.out (fun _ _ e => e)⟩
end Go.Proofs.YtcbkopjklbiheaaDoor
