/- wire.Write. -/
import Derived.Test.YtcbkopjklbiheaaDoorWm4
namespace Go.Proofs.YtcbkopjklbiheaaDoor
open Go.RowKit
set_option linter.unusedVariables false

/-- What Write does. -/
def WirePost (w : World) (m : Msg) (e : Ending) (w' : World) : Prop :=
  Same w w' ∧ ((m.Right ∧ ∃ v, e = .returned (.tuple #[v, .int .i64 0]) ∧ w'.ownsRow w.heap.size 5 1 v m.bytes.length (u8s m.bytes)) ∨ (¬ m.Right ∧ e = .returned (.tuple #[.slice none 0 0, .int .i64 1])))
def Msg.ints (m : Msg) : List Value := [.int .i64 3, .int .i64 m.k, .int .i64 m.f, .int .i64 m.t]
theorem Msg.ints_at (m : Msg) (h : m.Right) (j : Nat) (hj : j < 4) : m.ints[j]? = some (.int .i64 ((m.four.getD j 0 : Nat) : Int)) ∧ m.four.getD j 0 < 256 := by
  have h1 := h.kind
  have h2 := h.frm
  have h3 := h.to
  match j, hj with
  | 0, _ => exact ⟨rfl, by show (3 : Nat) < 256; omega⟩
  | 1, _ => exact ⟨by show some (Value.int .i64 m.k) = some (Value.int .i64 ((m.k.toNat : Nat) : Int)); rw [Int.toNat_of_nonneg (by omega)], by show m.k.toNat < 256; omega⟩
  | 2, _ => exact ⟨by show some (Value.int .i64 m.f) = some (Value.int .i64 ((m.f.toNat : Nat) : Int)); rw [Int.toNat_of_nonneg (by omega)], by show m.f.toNat < 256; omega⟩
  | 3, _ => exact ⟨by show some (Value.int .i64 m.t) = some (Value.int .i64 ((m.t.toNat : Nat) : Int)); rw [Int.toNat_of_nonneg (by omega)], by show m.t.toNat < 256; omega⟩
theorem Msg.nums_at (m : Msg) (j : Nat) (hj : j < 4) (hn : m.v < 18446744073709551616 ∧ m.n < 18446744073709551616 ∧ m.g < 18446744073709551616 ∧ m.c < 18446744073709551616 ∧ m.nr < 18446744073709551616) : m.nums[3 + j]? = some (.int .u64 ((m.eight.getD j 0 : Nat) : Int)) ∧ m.eight.getD j 0 < 256 ^ 8 := by
  have e : (256 : Nat) ^ 8 = 18446744073709551616 := by decide
  rw [e]
  match j, hj with
  | 0, _ => exact ⟨rfl, hn.1⟩
  | 1, _ => exact ⟨rfl, hn.2.1⟩
  | 2, _ => exact ⟨rfl, hn.2.2.1⟩
  | 3, _ => exact ⟨rfl, hn.2.2.2.1⟩
theorem MsgAt.hdB {w : World} {B : Nat} {m : Msg} (h : MsgAt w B m) (c : Nat) : Bytes w (.slice (some ⟨B, 7, none⟩) 32 c) m.hd := by
  rw [← h.2]
  exact .inl ⟨_, c, rfl, fun j u hu => by rw [add_at]; exact h.hdR j u hu⟩
theorem cell_same {w w' : World} {p : Addr} {v : Value} (h : w.cell? p = some v) (k : Same w w') : w'.cell? p = some v := by
  rw [World.cell?_of_block (w := w) (k.block _ (World.block_lt_of_cell? w _ h) (fun e => e))]; exact h
theorem flat_take (l : List (List UInt8)) (j : Nat) (h : j < l.length) : (l.take j).flatten ++ l[j] = (l.take (j + 1)).flatten := by
  rw [List.take_add_one, List.getElem?_eq_getElem h, List.flatten_append]; simp
theorem flat32_take (l : List (List UInt8)) (h : ∀ x ∈ l, x.length = 32) (j : Nat) (hj : j ≤ l.length) : (l.take j).flatten.length = 32 * j := by
  rw [flat32 _ (fun x hx => h x (List.mem_of_mem_take hx)), List.length_take, Nat.min_eq_left hj]
theorem txts_take (l : List (List UInt8)) (j : Nat) (h : j < l.length) : txts (l.take j) ++ (be l[j].length 2 ++ l[j]) = txts (l.take (j + 1)) := by
  unfold txts
  rw [List.take_add_one, List.getElem?_eq_getElem h, List.flatMap_append]; simp [txt]
theorem txts_take_len (l : List (List UInt8)) (h : ∀ b ∈ l, b.length ≤ 470) (j : Nat) (hj : j ≤ 64) : (txts (l.take j)).length ≤ 30208 := by
  have := txts_len (l.take j) (fun b hb => h b (List.mem_of_mem_take hb))
  rw [List.length_take] at this
  omega

set_option maxRecDepth 100000 in
set_option maxHeartbeats 25600000 in
theorem wireWrite_any (m : Msg) (w : World) (h : MsgIn w m) (hN : Nums w) : Calls Tryd.prog 10 #[.agg m.cells.toArray] w (WirePost w m) := by
  have hz32 := Tryd.zero32
  have HM := Lib.hid h
  have HNUM := Lib.hid hN
  obtain ⟨w1, hw1⟩ : ∃ w1, w.alloc (.cells m.cells.toArray 38) = w1 := ⟨_, rfl⟩
  have HB : Hid (MsgAt w1 w.heap.size m) := Lib.hid (by rw [← hw1]; exact MsgAt.new w m h.hd)
  have HK : Hid (Same w w1) := Lib.hid (by rw [← hw1]; exact (Keeps.refl _ _).alloc _)
  have HM1 : Hid (MsgIn w1 m) := Lib.hid (HM.out.same HK.out)
  have HSZ := Lib.hid (Tryd.sizeMsgOf m h.hd)
  have HBW : Hid (w1.heap[w.heap.size]? = some (.cells m.cells.toArray 38 (0, 0))) := Lib.hid HB.out.1
  have HCK := Lib.hid (checkMsg_any m w1 HM1.out)
  unfold CheckPost at HCK
  clear h hN
  go_enter Tryd.func10, Tryd.ntmps10
  go_wp2_with (refine wpList_load_row (by rfl) 38 _ (by rfl) w.heap.size (by rfl) 38 m.cells.toArray (0, 0) _ HBW.out Tryd.underlying38 rfl HSZ.out ?_)
  ((with_reducible refine (HCK.out).mono ?_); rintro e w2 ⟨r, rfl, hr, hk2⟩)
  have HK2 := Lib.hid (HK.out.trans hk2 (fun _ _ e => e))
  have HB2 := Lib.hid (HB.out.keep hk2 (fun e => e))
  have HM2 := Lib.hid (HM1.out.same hk2)
  clear hk2 HB HBW HM1 HCK hw1
  rcases hr with ⟨rfl, hR⟩ | ⟨rfl, hR⟩
  case inr =>
    have HR := Lib.hid hR
    clear hR
    go_wp2
    go_ret2
    exact ⟨HK2.out, .inr ⟨HR.out, rfl⟩⟩
  have HR := Lib.hid hR
  clear hR
  obtain ⟨wp, hwp⟩ : ∃ wp, w2.alloc (.cells #[.slice none 0 0] 55) = wp := ⟨_, rfl⟩
  obtain ⟨wi, hwi⟩ : ∃ wi, wp.alloc (.cells #[.int .i64 3, .int .i64 m.k, .int .i64 m.f, .int .i64 m.t] 3) = wi := ⟨_, rfl⟩
  have HPW : Hid (PenW w2 wp w2.heap.size []) := Lib.hid (by rw [← hwp]; exact PenW.mk' w2)
  have HKI : Hid (Same wp wi) := Lib.hid (by rw [← hwi]; exact (Keeps.refl _ _).alloc _)
  have HINT : Hid (Whole wi wp.heap.size 3 m.ints) := Lib.hid (by rw [← hwi]; exact heap_alloc_new wp _)
  have HBP : Hid (MsgAt wp w.heap.size m) := Lib.hid (HB2.out.keep HPW.out.same (fun e => e))
  have HG := Lib.hid (HPW.out.toG HKI.out)
  have HIL : Hid (wp.heap.size < wi.heap.size) := Lib.hid HINT.out.lt
  have c0 : wp.cell? ⟨w.heap.size, 0, none⟩ = some (.int .i64 m.k) := HBP.out.low 0 _ (by omega) rfl
  have c1 : wp.cell? ⟨w.heap.size, 1, none⟩ = some (.int .i64 m.f) := HBP.out.low 1 _ (by omega) rfl
  have c2 : wp.cell? ⟨w.heap.size, 2, none⟩ = some (.int .i64 m.t) := HBP.out.low 2 _ (by omega) rfl
  go_wp2
  clear c0 c1 c2 hwp hwi
  go_loopw [32] (fun i wr => ∃ j : Nat, j ≤ 4 ∧ i = .int .i64 j ∧ Hid (PenG w2 wi wr (fun j => wp.heap.size ≤ j ∧ j < wi.heap.size) w2.heap.size (flatN m.four 1 j))) (fun i _ => 4 - (intOf i).toNat)
  case atStart => exact ⟨0, by omega, rfl, HG⟩
  case round =>
    obtain ⟨j, hj, rfl, HP⟩ := hrel
    by_cases hlt : j < 4
    · have HI2 : Hid (Whole wr wp.heap.size 3 m.ints) := Lib.hid (HINT.out.keep HP.out.far (fun e => e ⟨Nat.le_refl _, HIL.out⟩))
      obtain ⟨hx1, hx2⟩ := m.ints_at HR.out j hlt
      have hc := HI2.out.cell hx1
      have HX2 := Lib.hid hx2
      have HSU := Lib.hid (flatN_succ m.four 1 j (by simpa [Msg.four] using hlt))
      have HLN := Lib.hid (flatN_length m.four 1 j (by simpa [Msg.four] using hj))
      generalize m.four.getD j 0 = x at hc HX2 HSU
      have hu : IntKind.u64.wrap (x : Int) = x := IntWalk.u64_in (x : Int) (by have := HX2.out; omega)
      have hj4 : (j : Int) < 4 := by omega
      have hj0 : (0 : Int) ≤ (j : Int) := by omega
      clear hx1 hx2
      go_wp2_with fail
      ((with_reducible refine (uint_g w2.heap.size _ x 1 _ _ _ HP.out (by rw [HLN.out]; omega) (by omega) (by omega) (by have := HX2.out; omega) (by omega) (by omega)).mono ?_); rintro e w4 ⟨rfl, hp4⟩)
      have HP4 := Lib.hid hp4
      rw [HSU.out] at HP4
      clear hp4 hc
      go_wp2
      go_roundw
      case rel => exact ⟨j + 1, by omega, by go_num, HP4⟩
      case measure => simp [intOf]; omega
    · obtain rfl : j = 4 := by omega
      have HPA := Lib.hid HP.out.toW
      clear HP HG HINT
      go_wp2_with fail
      ((with_reducible refine (numbersW_any w.heap.size _).mono ?_); rintro e w5 ⟨R, rfl, hr5, hk5, hR5⟩)
      have HR5 := Lib.hid hr5
      have HG5 := Lib.hid (HPA.out.toG hk5)
      have HRF : Hid (wr.heap.size ≤ R ∧ R < w5.heap.size) := Lib.hid ⟨hR5, hr5.lt⟩
      obtain ⟨wq, rfl⟩ : ∃ wq : World, wq = wr := ⟨_, rfl⟩
      have HL1 := Lib.hid (flatN_length m.four 1 4 (by simp [Msg.four]))
      obtain ⟨P1, hP1⟩ : ∃ P1, flatN m.four 1 4 = P1 := ⟨_, rfl⟩
      rw [hP1] at HG5 HL1
      have HP1 := Lib.hid hP1
      clear hr5 hk5 hR5 HPA hP1
      go_wp2
      go_loopw [43] (fun i wx => ∃ j : Nat, j ≤ 4 ∧ i = .int .i64 j ∧ Hid (PenG w2 w5 wx (fun j => wq.heap.size ≤ j ∧ j < w5.heap.size) w2.heap.size (P1 ++ flatN m.eight 8 j))) (fun i _ => 4 - (intOf i).toNat)
      case atStart => exact ⟨0, by omega, rfl, Lib.hid (by have := HG5.out; simpa [flatN] using this)⟩
      case round =>
        obtain ⟨j, hj, rfl, HP⟩ := hrel
        by_cases hlt : j < 4
        · have HR6 : Hid (Whole wr R 61 (ptrs4 w.heap.size)) := Lib.hid (HR5.out.keep HP.out.far (fun e => e HRF.out))
          have HB6 : Hid (MsgAt wr w.heap.size m) := Lib.hid (HB2.out.keep HP.out.same (fun e => e))
          obtain ⟨hx1, hx2⟩ := m.nums_at j hlt HM2.out.nm
          have hc := HR6.out.cell (ptrs4_get w.heap.size j hlt)
          have hd : wr.cell? ⟨w.heap.size, 3 + j, none⟩ = _ := HB6.out.low (3 + j) _ (by omega) hx1
          have HX2 := Lib.hid hx2
          have HSU := Lib.hid (flatN_succ m.eight 8 j (by simpa [Msg.eight] using hlt))
          have HLN := Lib.hid (flatN_length m.eight 8 j (by simpa [Msg.eight] using hj))
          generalize m.eight.getD j 0 = x at hd HX2 HSU
          have hj4 : (j : Int) < 4 := by omega
          have hj0 : (0 : Int) ≤ (j : Int) := by omega
          clear hx1 hx2
          go_wp2_with fail
          ((with_reducible refine (uint_g w2.heap.size _ x 8 _ _ _ HP.out (by rw [List.length_append, HLN.out, HL1.out]; omega) (by omega) (by omega) HX2.out (by omega) (by omega)).mono ?_); rintro e w6 ⟨rfl, hp4⟩)
          have HP4 := Lib.hid hp4
          rw [List.append_assoc, HSU.out] at HP4
          clear hp4 hc hd
          go_wp2
          go_roundw
          case rel => exact ⟨j + 1, by omega, by go_num, HP4⟩
          case measure => simp [intOf]; omega
        · obtain rfl : j = 4 := by omega
          have HPA := Lib.hid HP.out.toW
          have HL2 := Lib.hid (flatN_length m.eight 8 4 (by simp [Msg.eight]))
          have HQ : Hid (P1 ++ flatN m.eight 8 4 ++ m.hd ++ be m.cl.toNat 1 ++ be m.nr 8 = m.headB) := Lib.hid (by rw [← HP1.out]; rfl)
          obtain ⟨P2, hP2⟩ : ∃ P2, P1 ++ flatN m.eight 8 4 = P2 := ⟨_, rfl⟩
          have HL3 : Hid (P2.length = 36) := Lib.hid (by rw [← hP2, List.length_append, HL1.out, HL2.out])
          rw [hP2] at HPA HQ
          have HB6 : Hid (MsgAt wr w.heap.size m) := Lib.hid (HB2.out.keep HPA.out.same (fun e => e))
          have HHB := Lib.hid (HB6.out.hdB 32)
          have HHL : Hid (m.hd.length = 32) := Lib.hid HB6.out.2
          have HCL : Hid ((m.cl.toNat : Int) = m.cl ∧ m.cl.toNat < 256) := Lib.hid (by have := HR.out.clr; omega)
          clear HP HG5 HR5 hP2 HL1 HL2
          go_wp2_with fail
          ((with_reducible refine (raw_w w2.heap.size _ m.hd _ _ HPA.out HHB.out (by have := HL3.out; have := HHL.out; omega)).mono ?_); rintro e w7 ⟨rfl, hp7⟩)
          have HP7 := Lib.hid hp7
          have HB7 : Hid (MsgAt w7 w.heap.size m) := Lib.hid (HB2.out.keep hp7.same (fun e => e))
          have c39 : w7.cell? ⟨w.heap.size, 39, none⟩ = some (.int .i64 m.cl) := HB7.out.high 0 39 _ rfl rfl
          have hu : IntKind.u64.wrap m.cl = m.cl := IntWalk.u64_in m.cl (by have := HR.out.clr; omega)
          clear hp7 HPA HB6 HHB
          go_wp2_with fail
          ((with_reducible refine (uint_w w2.heap.size _ m.cl.toNat 1 _ _ _ HP7.out (by rw [List.length_append, HL3.out, HHL.out]; omega) (by omega) (by omega) (by have := HCL.out; omega) (HCL.out.1.symm) (by omega)).mono ?_); rintro e w8 ⟨rfl, hp8⟩)
          have HP8 := Lib.hid hp8
          have HB8 : Hid (MsgAt w8 w.heap.size m) := Lib.hid (HB2.out.keep hp8.same (fun e => e))
          have c40 : w8.cell? ⟨w.heap.size, 40, none⟩ = some (.int .u64 m.nr) := HB8.out.high 1 40 _ rfl rfl
          have HNR : Hid (m.nr < 256 ^ 8) := Lib.hid (by have := HM2.out.nm; omega)
          clear hp8 HP7 HB7 c39 hu
          go_wp2_with fail
          ((with_reducible refine (uint_w w2.heap.size _ m.nr 8 _ _ _ HP8.out (by rw [List.length_append, List.length_append, HL3.out, HHL.out, be_length]; omega) (by omega) (by omega) HNR.out rfl (by omega)).mono ?_); rintro e w9 ⟨rfl, hp9⟩)
          rw [HQ.out] at hp9
          have HP9 := Lib.hid hp9
          have HB9 : Hid (MsgAt w9 w.heap.size m) := Lib.hid (HB2.out.keep hp9.same (fun e => e))
          have HHL9 : Hid (m.headB.length = 77) := Lib.hid (m.headB_length HHL.out)
          have c0 : w9.cell? ⟨w.heap.size, 0, none⟩ = some (.int .i64 m.k) := HB9.out.low 0 _ (by omega) rfl
          clear hp9 HP8 HB8 c40
          by_cases k1 : m.k = 1
          · have e1 : (m.k == 1) = true := by simpa using k1
            have e2 : (m.k == 2) = false := by rw [k1]; rfl
            have HOB : Hid (m.opB = opBytes m.ok m.off m.on m.p m.q m.od) := Lib.hid (if_pos k1)
            have HAB : Hid (m.ansB = []) := Lib.hid (if_neg (by omega))
            have HBY : Hid (Bytes w9 (.slice m.oo m.od.length m.oc) m.od) := Lib.hid (HM2.out.od.same HP9.out.same)
            have HWY : Hid (Calls Tryd.prog 20 #[.agg m.op.toArray] w9 fun e w' => ∃ v, e = .returned (.tuple #[v, .int .i64 0]) ∧ w'.ownsRow w9.heap.size 5 1 v (opBytes m.ok m.off m.on m.p m.q m.od).length (u8s (opBytes m.ok m.off m.on m.p m.q m.od)) ∧ Same w9 w') := Lib.hid (write_yes m.ok m.off m.on m.p m.q m.oo m.oc m.od w9 (HR.out.opOk k1) HBY.out)
            rw [← HOB.out] at HWY
            clear k1
            go_wp2_with (refine wpList_load_mid (by rfl) 28 _ (by rfl) w.heap.size 41 (by rfl) m.op _ HB9.out.opR Tryd.underlying28 rfl (by exact Tryd.sizeOpW) ?_)
            ((with_reducible refine (HWY.out).mono ?_); rintro e w10 ⟨v, rfl, ho10, hk10⟩)
            have HG10 := Lib.hid (HP9.out.toG hk10)
            have HBS := Lib.hid (Beside.own ho10 rfl)
            have HB10 : Hid (MsgAt w10 w.heap.size m) := Lib.hid (HB9.out.keep hk10 (fun e => e))
            have c0 : w10.cell? ⟨w.heap.size, 0, none⟩ = some (.int .i64 m.k) := HB10.out.low 0 _ (by omega) rfl
            clear ho10 hk10 HWY HBY
            go_wp2_with fail
            ((with_reducible refine (text_g w2.heap.size _ m.opB _ _ HG10.out HBS.out (by have := HR.out.op_len; omega) (by have := HR.out.op_len; have := HHL9.out; omega)).mono ?_); rintro e w11 ⟨rfl, hp11⟩)
            have HP11 := Lib.hid hp11
            clear hp11 HG10 HBS
            have HNIL := Lib.hid (Beside.nil w10 (fun j => w9.heap.size ≤ j ∧ j < w10.heap.size))
            go_wp2_with fail
            ((with_reducible refine (text_g w2.heap.size _ [] _ _ HP11.out HNIL.out (by simp) (by have := HR.out.op_len; have := HHL9.out; simp only [List.length_append, be_length, List.length_nil]; omega)).mono ?_); rintro e w12 ⟨rfl, hp12⟩)
            have HP12 : Hid (PenW w2 w12 w2.heap.size m.frontB) := Lib.hid (by
              have := hp12.toW
              rw [← HAB.out] at this
              exact this)
            clear hp12 HP11 c0 e1 e2
            have HFL : Hid (m.frontB.length ≤ 351) := Lib.hid (HR.out.front_len HHL.out)
            have HB12 : Hid (MsgAt w12 w.heap.size m) := Lib.hid (HB2.out.keep HP12.out.same (fun e => e))
            have c51 : w12.cell? ⟨w.heap.size, 51, none⟩ = some (.slice m.ho m.hs.length m.hcap) := HB12.out.high 12 51 _ rfl rfl
            obtain ⟨hn, hhn⟩ : ∃ n, m.hs.length = n := ⟨_, rfl⟩
            rw [hhn] at c51
            have HHN := Lib.hid hhn
            have hn16 : hn ≤ 16 := by have := HR.out.hs; omega
            have hu : IntKind.u64.wrap (hn : Int) = hn := IntWalk.u64_in (hn : Int) (by omega)
            clear hhn HB12
            go_wp2_with fail
            ((with_reducible refine (uint_w w2.heap.size _ hn 1 _ _ _ HP12.out (by have := HFL.out; omega) (by omega) (by omega) (by omega) (by omega) (by omega)).mono ?_); rintro e w13 ⟨rfl, hp13⟩)
            obtain ⟨X1, hX1⟩ : ∃ X, m.frontB ++ be hn 1 = X := ⟨_, rfl⟩
            have HL1 : Hid (X1.length ≤ 352) := Lib.hid (by rw [← hX1, List.length_append, be_length]; have := HFL.out; omega)
            rw [hX1] at hp13
            have HX1 := Lib.hid hX1
            have HP13 := Lib.hid hp13
            have HB13 : Hid (MsgAt w13 w.heap.size m) := Lib.hid (HB2.out.keep hp13.same (fun e => e))
            have c51 : w13.cell? ⟨w.heap.size, 51, none⟩ = some (.slice m.ho hn m.hcap) := by
              have := HB13.out.high 12 51 _ rfl rfl
              rwa [HHN.out] at this
            obtain ⟨ho, hho⟩ : ∃ x, m.ho = x := ⟨_, rfl⟩
            have HHS : Hid (Hss w2 ho m.hs) := Lib.hid (by rw [← hho]; exact HM2.out.hs)
            rw [hho] at c51
            clear hho hX1 hp13 HP12 HB13
            go_wp2
            clear c51
            go_loopw [102] (fun i wz => ∃ j : Nat, j ≤ hn ∧ i = .int .i64 j ∧ Hid (PenW w2 wz w2.heap.size (X1 ++ (m.hs.take j).flatten))) (fun i _ => hn - (intOf i).toNat)
            case atStart => exact ⟨0, by omega, rfl, Lib.hid (by simpa using HP13.out)⟩
            case round =>
              obtain ⟨j, hj, rfl, HP⟩ := hrel
              by_cases hlt : j < hn
              · have hjl : j < m.hs.length := by rw [HHN.out]; exact hlt
                obtain ⟨g, off, rfl, hra⟩ := (HHS.out.same HP.out.same).at hjl
                have HX : Hid ((m.hs[j]).length = 32) := Lib.hid (HHS.out.1 _ (List.getElem_mem hjl))
                have HTK := Lib.hid (flat_take m.hs j hjl)
                have HTL := Lib.hid (flat32_take m.hs HHS.out.1 j (by omega))
                have HRA := Lib.hid hra
                clear hra
                generalize m.hs[j] = x at HX HTK HRA
                have HI : Hid ((Tryd.prog.info? 25).map (·.size) = some (u8s x).length) := Lib.hid (by rw [u8s_length, HX.out]; exact Tryd.sizeHashW)
                obtain ⟨w9', hw9⟩ : ∃ w9, (wr.alloc (.cells z32.toArray 25)).setRow wr.heap.size (u8s x).toArray = w9 := ⟨_, rfl⟩
                have HW9 := Lib.hid hw9
                have HN9 : Hid ((wr.alloc (.cells z32.toArray 25)).heap[wr.heap.size]? = some (.cells z32.toArray 25 (0, 0))) := Lib.hid (heap_alloc_new wr _)
                have HI9 := Lib.hid (Tryd.sizeHash x HX.out)
                have HZ9 : Hid (z32.toArray.size = (u8s x).toArray.size) := Lib.hid (size32 (List.replicate 32 0) x (by simp) HX.out)
                have HX9 : Hid (Bytes w9' (.slice (some ⟨wr.heap.size, 0, none⟩) 32 32) x) := Lib.hid (by
                  rw [← hw9]
                  exact Bytes.of_block (Whole.row (cs := z32) (heap_alloc_new wr _)) (by simp) 32 32 HX.out.symm)
                have HP9' : Hid (PenW w2 w9' w2.heap.size (X1 ++ (m.hs.take j).flatten)) := Lib.hid (by
                  rw [← hw9]
                  exact HP.out.keep (S := fun k => k = wr.heap.size) (((Keeps.refl _ _).alloc _).setRow _ _ (.inr rfl)) (fun j e => by omega))
                have hjn : (j : Int) < (hn : Int) := by omega
                have hj0 : (0 : Int) ≤ (j : Int) := by omega
                clear hw9 hjl
                go_wp2_with (first
                  | (refine wpList_load_mid (by rfl) 25 _ (by rfl) g (off + j * 32) (by rfl) (u8s x) _ HRA.out Tryd.underlying25 rfl HI.out ?_)
                  | (refine wpList_store_row (by rfl) 25 _ _ (by rfl) wr.heap.size (u8s x).toArray (by rfl) (by rfl) 25 z32.toArray HN9.out HI9.out HZ9.out (u8s_all _) ?_; rw [HW9.out]))
                ((with_reducible refine (raw_w w2.heap.size _ x _ _ HP9'.out HX9.out (by rw [List.length_append, HTL.out]; have := HL1.out; have := HX.out; omega)).mono ?_); rintro e w15 ⟨rfl, hp15⟩)
                have HP15 := Lib.hid hp15
                rw [List.append_assoc, HTK.out] at HP15
                clear hp15 HX9 HP9' HN9 HW9
                go_wp2
                go_roundw
                case rel => exact ⟨j + 1, by omega, by go_num, HP15⟩
                case measure => simp [intOf]; omega
              · obtain rfl : j = hn := by omega
                have hjn : ¬ (j : Int) < (j : Int) := by omega
                have HP14 : Hid (PenW w2 wr w2.heap.size (X1 ++ m.hs.flatten)) := Lib.hid (by
                  have := HP.out
                  rwa [List.take_of_length_le (by rw [HHN.out]; exact Nat.le_refl _)] at this)
                have HTL : Hid (m.hs.flatten.length ≤ 512) := Lib.hid (by rw [flat32 _ HHS.out.1, HHN.out]; omega)
                obtain ⟨X2, hX2⟩ : ∃ X, X1 ++ m.hs.flatten = X := ⟨_, rfl⟩
                have HL2 : Hid (X2.length ≤ 864) := Lib.hid (by rw [← hX2, List.length_append]; have := HTL.out; have := HL1.out; omega)
                rw [hX2] at HP14
                have HX2 := Lib.hid hX2
                have HB14 : Hid (MsgAt wr w.heap.size m) := Lib.hid (HB2.out.keep HP14.out.same (fun e => e))
                have c52 : wr.cell? ⟨w.heap.size, 52, none⟩ = some (.slice m.bo m.bs.length m.bcap) := HB14.out.high 13 52 _ rfl rfl
                obtain ⟨bn, hbn⟩ : ∃ n, m.bs.length = n := ⟨_, rfl⟩
                rw [hbn] at c52
                have HBN := Lib.hid hbn
                have bn64 : bn ≤ 64 := by have := HR.out.bs; omega
                have hu : IntKind.u64.wrap (bn : Int) = bn := IntWalk.u64_in (bn : Int) (by omega)
                clear hX2 HP HB14
                have HBRW : Hid (Rows2 w2 (.slice m.bo bn m.bcap) m.bs) := Lib.hid (by rw [← hbn]; exact HM2.out.bs)
                clear hbn
                go_wp2_with fail
                ((with_reducible refine (uint_w w2.heap.size _ bn 1 _ _ _ HP14.out (by have := HL2.out; omega) (by omega) (by omega) (by omega) (by omega) (by omega)).mono ?_); rintro e w16 ⟨rfl, hp16⟩)
                obtain ⟨X3, hX3⟩ : ∃ X, X2 ++ be bn 1 = X := ⟨_, rfl⟩
                have HL3' : Hid (X3.length ≤ 865) := Lib.hid (by rw [← hX3, List.length_append, be_length]; have := HL2.out; omega)
                rw [hX3] at hp16
                have HX3 := Lib.hid hX3
                have HP16 := Lib.hid hp16
                have HB16 : Hid (MsgAt w16 w.heap.size m) := Lib.hid (HB2.out.keep hp16.same (fun e => e))
                have c52 : w16.cell? ⟨w.heap.size, 52, none⟩ = some (.slice m.bo bn m.bcap) := by
                  have := HB16.out.high 13 52 _ rfl rfl
                  rwa [HBN.out] at this
                obtain ⟨bo, hbo⟩ : ∃ x, m.bo = x := ⟨_, rfl⟩
                rw [hbo] at c52 HBRW
                clear hbo hX3 hp16 HP14 HB16
                go_wp2
                clear c52
                have HEL : Hid ((m.bs.map (·.2)).length = bn) := Lib.hid (by rw [List.length_map, HBN.out])
                have HEA : Hid (∀ b ∈ m.bs.map (·.2), b.length ≤ 470) := Lib.hid (fun b hb => by
                  obtain ⟨r, h1, rfl⟩ := List.mem_map.1 hb
                  exact HR.out.each r h1)
                go_loopw [119] (fun i wz => ∃ j : Nat, j ≤ bn ∧ i = .int .i64 j ∧ Hid (PenW w2 wz w2.heap.size (X3 ++ txts ((m.bs.map (·.2)).take j)))) (fun i _ => bn - (intOf i).toNat)
                case atStart => exact ⟨0, by omega, rfl, Lib.hid (by simpa [txts] using HP16.out)⟩
                case round =>
                  obtain ⟨j, hj, rfl, HP⟩ := hrel
                  by_cases hlt : j < bn
                  · have hjl : j < m.bs.length := by rw [HBN.out]; exact hlt
                    have hjm : j < (m.bs.map (·.2)).length := by rw [HEL.out]; exact hlt
                    obtain ⟨a, xo, xc, rfl, hx, hc, hb⟩ := HBRW.out.at hjl
                    have hc2 := cell_same hc HP.out.same
                    have HGE : Hid ((m.bs.map (·.2))[j] = (m.bs[j]).2) := Lib.hid (by simp)
                    have HEJ : Hid ((m.bs[j]).2.length ≤ 470) := Lib.hid (HR.out.each _ (List.getElem_mem hjl))
                    have HTK := Lib.hid (txts_take (m.bs.map (·.2)) j hjm)
                    rw [HGE.out] at HTK
                    have HTL := Lib.hid (txts_take_len (m.bs.map (·.2)) HEA.out j (by omega))
                    have HBB := Lib.hid hb
                    clear hb hc HGE hx
                    generalize (m.bs[j]).2 = x at hc2 HEJ HTK HBB
                    have hjn : (j : Int) < (bn : Int) := by omega
                    have hj0 : (0 : Int) ≤ (j : Int) := by omega
                    clear hjl hjm
                    go_wp2_with fail
                    ((with_reducible refine (text_w w2.heap.size _ x _ _ _ _ HP.out HBB.out (by have := HEJ.out; omega) (by rw [List.length_append]; have := HTL.out; have := HL3'.out; have := HEJ.out; omega)).mono ?_); rintro e w17 ⟨rfl, hp17⟩)
                    have HP17 := Lib.hid hp17
                    rw [List.append_assoc, HTK.out] at HP17
                    clear hp17 hc2
                    go_wp2
                    go_roundw
                    case rel => exact ⟨j + 1, by omega, by go_num, HP17⟩
                    case measure => simp [intOf]; omega
                  · obtain rfl : j = bn := by omega
                    have hjn : ¬ (j : Int) < (j : Int) := by omega
                    have HBODY : Hid (X3 ++ txts (m.bs.map (·.2)) = m.bodyB) := Lib.hid (by
                      rw [← HX3.out, ← HX2.out, ← HX1.out]
                      unfold Msg.bodyB
                      rw [HHN.out, HBN.out])
                    have HP18 : Hid (PenW w2 wr w2.heap.size m.bodyB) := Lib.hid (by
                      have := HP.out
                      rw [List.take_of_length_le (by rw [HEL.out]; exact Nat.le_refl _), HBODY.out] at this
                      exact this)
                    have HBL : Hid (m.bodyB.length ≤ 31073 ∧ 0 < m.bodyB.length) := Lib.hid (by
                      have h1 := txts_take_len (m.bs.map (·.2)) HEA.out j (by omega)
                      rw [List.take_of_length_le (by rw [HEL.out]; exact Nat.le_refl _)] at h1
                      have h2 := HL3'.out
                      rw [← HBODY.out, List.length_append]
                      refine ⟨by omega, ?_⟩
                      rw [← HX3.out, List.length_append, be_length]; omega)
                    obtain ⟨Y, hY⟩ : ∃ Y, m.bodyB = Y := ⟨_, rfl⟩
                    have HFIN : Hid (m.bytes = Y ++ (shaOf Y).take 8) := Lib.hid (by rw [← hY]; rfl)
                    rw [hY] at HP18 HBL
                    obtain ⟨L, hL⟩ : ∃ L, Y.length = L := ⟨_, rfl⟩
                    have HYL := Lib.hid hL
                    rw [hL] at HBL
                    clear hY hL HP HP16 HBODY
                    go_wp2_with fail
                    ((with_reducible refine (data_w w2.heap.size _ _ HP18.out (by have := HYL.out; have := HBL.out; omega)).mono ?_); rintro e w19 ⟨v, rfl, ho19, hk19⟩)
                    rw [HYL.out] at ho19
                    obtain ⟨g7, c7, rfl⟩ : ∃ g7 c7, v = .slice (some ⟨g7, 0, none⟩) L c7 := by
                      rcases ho19.2 with ⟨_, h0⟩ | ⟨g, cp, cur, h, _⟩
                      · have := HBL.out; omega
                      · exact ⟨g, cp, h⟩
                    have HO19 := Lib.hid ho19
                    have HC19 := Lib.hid (own_cap ho19)
                    have HP19 := Lib.hid (HP18.out.same' hk19)
                    have HN19 : Hid (Nums w19) := Lib.hid (HNUM.out.keep (HK2.out.trans (HP18.out.same' hk19).same (fun _ _ e => e)) (fun e => e))
                    clear ho19 hk19 HP18
                    go_wp2_with fail
                    ((with_reducible refine (shaSum_any _ L c7 Y _ (Bytes.of_own' HO19.out HYL.out) HYL.out HC19.out.1 HC19.out.2 (by have := HBL.out; omega) HN19.out).mono ?_); rintro e w20 ⟨rfl, hk20⟩)
                    have HP20 := Lib.hid (HP19.out.same' hk20)
                    clear hk20 HP19 HO19 HC19
                    obtain ⟨w9', hw9⟩ : ∃ w9, (w20.alloc (.cells z32.toArray 25)).setRow w20.heap.size (u8s (shaOf Y)).toArray = w9 := ⟨_, rfl⟩
                    have HW9 := Lib.hid hw9
                    have HN9 : Hid ((w20.alloc (.cells z32.toArray 25)).heap[w20.heap.size]? = some (.cells z32.toArray 25 (0, 0))) := Lib.hid (heap_alloc_new w20 _)
                    have HI9 := Lib.hid (Tryd.sizeHash (shaOf Y) (shaOf_length _))
                    have HZ9 : Hid (z32.toArray.size = (u8s (shaOf Y)).toArray.size) := Lib.hid (size32 (List.replicate 32 0) (shaOf Y) (by simp) (shaOf_length _))
                    have HSL : Hid (((shaOf Y).take 8).length = 8) := Lib.hid (by rw [List.length_take, shaOf_length]; rfl)
                    have HX9 : Hid (Bytes w9' (.slice (some ⟨w20.heap.size, 0, none⟩) 8 32) ((shaOf Y).take 8)) := Lib.hid (by
                      rw [← hw9]
                      have h1 : Bytes ((w20.alloc (.cells z32.toArray 25)).setRow w20.heap.size (u8s (shaOf Y)).toArray) (.slice (some ⟨w20.heap.size, 0, none⟩) (shaOf Y).length 32) (shaOf Y) := Bytes.of_block (Whole.row (cs := z32) (heap_alloc_new w20 _)) (by simp) _ 32 rfl
                      exact Bytes.take h1 8 (by rw [shaOf_length]; omega))
                    have HP9' : Hid (PenW w2 w9' w2.heap.size Y) := Lib.hid (by
                      rw [← hw9]
                      exact HP20.out.keep (S := fun k => k = w20.heap.size) (((Keeps.refl _ _).alloc _).setRow _ _ (.inr rfl)) (fun j e => by omega))
                    clear hw9
                    go_wp2_with (first
                      | (refine wpList_store_row (by rfl) 25 _ _ (by rfl) w20.heap.size (u8s (shaOf Y)).toArray (by rfl) (by rfl) 25 z32.toArray HN9.out HI9.out HZ9.out (u8s_all _) ?_; rw [HW9.out]))
                    ((with_reducible refine (raw_w w2.heap.size _ ((shaOf Y).take 8) _ _ HP9'.out HX9.out (by rw [HSL.out]; have := HYL.out; have := HBL.out; omega)).mono ?_); rintro e w21 ⟨rfl, hp21⟩)
                    rw [← HFIN.out] at hp21
                    have HP21 := Lib.hid hp21
                    have HML : Hid (m.bytes.length ≤ 40000) := Lib.hid (by rw [HFIN.out, List.length_append, HSL.out, HYL.out]; have := HBL.out; omega)
                    clear hp21 HX9 HP9' HW9 HN9
                    go_wp2_with fail
                    ((with_reducible refine (data_w w2.heap.size _ _ HP21.out (by have := HML.out; omega)).mono ?_); rintro e w22 ⟨v, rfl, ho22, hk22⟩)
                    have HO22 : Hid (w22.ownsRow w.heap.size 5 1 v m.bytes.length (u8s m.bytes)) := Lib.hid (own_base ho22 (by have h1 := HK2.out.size; have h2 := HP21.out.same.size; omega))
                    have HK22 : Hid (Same w w22) := Lib.hid ((HK2.out.trans HP21.out.same (fun _ _ e => e)).trans hk22 (fun _ _ e => e))
                    clear ho22 hk22
                    go_wp2
                    go_ret2
                    exact ⟨HK22.out, .inl ⟨HR.out, v, rfl, HO22.out⟩⟩
          have e1 : (m.k == 1) = false := by simpa using k1
          have HOB : Hid (m.opB = []) := Lib.hid (if_neg k1)
          clear k1
          by_cases k2 : m.k = 2
          · have e2 : (m.k == 2) = true := by simpa using k2
            have HAB : Hid (m.ansB = ansBytes m.ac m.an m.ad m.ns) := Lib.hid (if_pos k2)
            have HBY : Hid (Bytes w9 (.slice m.ao m.ad.length m.acap) m.ad) := Lib.hid (HM2.out.ad.same HP9.out.same)
            have HST : Hid (Strs w9 (.slice m.no m.ns.length m.ncap) m.ns) := Lib.hid (HM2.out.ns.same HP9.out.same)
            have HWY : Hid (Calls Tryd.prog 21 #[.agg m.ans.toArray] w9 fun e w' => ∃ v, e = .returned (.tuple #[v, .int .i64 0]) ∧ w'.ownsRow w9.heap.size 5 1 v (ansBytes m.ac m.an m.ad m.ns).length (u8s (ansBytes m.ac m.an m.ad m.ns)) ∧ Same w9 w') := Lib.hid (writeAnswer_yes m.ac m.an m.ao m.no m.acap m.ncap m.ad m.ns w9 HBY.out HST.out (HR.out.ansR k2))
            rw [← HAB.out] at HWY
            clear k2
            go_wp2_with (refine wpList_load_mid (by rfl) 34 _ (by rfl) w.heap.size 47 (by rfl) m.ans _ HB9.out.ansR Tryd.underlying34 rfl (by exact Tryd.sizeAnsW) ?_)
            ((with_reducible refine (HWY.out).mono ?_); rintro e w10 ⟨v, rfl, ho10, hk10⟩)
            have HG10 := Lib.hid (HP9.out.toG hk10)
            have HBS := Lib.hid (Beside.own ho10 rfl)
            have HNIL := Lib.hid (Beside.nil w10 (fun j => w9.heap.size ≤ j ∧ j < w10.heap.size))
            clear ho10 hk10 HWY HBY HST
            go_wp2_with fail
            ((with_reducible refine (text_g w2.heap.size _ [] _ _ HG10.out HNIL.out (by simp) (by have := HHL9.out; simp only [List.length_nil]; omega)).mono ?_); rintro e w11 ⟨rfl, hp11⟩)
            have HP11 := Lib.hid hp11
            clear hp11 HG10
            go_wp2_with fail
            ((with_reducible refine (text_g w2.heap.size _ m.ansB _ _ HP11.out HBS.out (by have := HR.out.ans_len; omega) (by have := HR.out.ans_len; have := HHL9.out; simp only [List.length_append, be_length, List.length_nil]; omega)).mono ?_); rintro e w12 ⟨rfl, hp12⟩)
            have HP12 : Hid (PenW w2 w12 w2.heap.size m.frontB) := Lib.hid (by
              have := hp12.toW
              unfold Msg.frontB txt
              rw [HOB.out]
              exact this)
            clear hp12 HP11 c0 e1 e2 HBS
            have HFL : Hid (m.frontB.length ≤ 351) := Lib.hid (HR.out.front_len HHL.out)
            have HB12 : Hid (MsgAt w12 w.heap.size m) := Lib.hid (HB2.out.keep HP12.out.same (fun e => e))
            have c51 : w12.cell? ⟨w.heap.size, 51, none⟩ = some (.slice m.ho m.hs.length m.hcap) := HB12.out.high 12 51 _ rfl rfl
            obtain ⟨hn, hhn⟩ : ∃ n, m.hs.length = n := ⟨_, rfl⟩
            rw [hhn] at c51
            have HHN := Lib.hid hhn
            have hn16 : hn ≤ 16 := by have := HR.out.hs; omega
            have hu : IntKind.u64.wrap (hn : Int) = hn := IntWalk.u64_in (hn : Int) (by omega)
            clear hhn HB12
            go_wp2_with fail
            ((with_reducible refine (uint_w w2.heap.size _ hn 1 _ _ _ HP12.out (by have := HFL.out; omega) (by omega) (by omega) (by omega) (by omega) (by omega)).mono ?_); rintro e w13 ⟨rfl, hp13⟩)
            obtain ⟨X1, hX1⟩ : ∃ X, m.frontB ++ be hn 1 = X := ⟨_, rfl⟩
            have HL1 : Hid (X1.length ≤ 352) := Lib.hid (by rw [← hX1, List.length_append, be_length]; have := HFL.out; omega)
            rw [hX1] at hp13
            have HX1 := Lib.hid hX1
            have HP13 := Lib.hid hp13
            have HB13 : Hid (MsgAt w13 w.heap.size m) := Lib.hid (HB2.out.keep hp13.same (fun e => e))
            have c51 : w13.cell? ⟨w.heap.size, 51, none⟩ = some (.slice m.ho hn m.hcap) := by
              have := HB13.out.high 12 51 _ rfl rfl
              rwa [HHN.out] at this
            obtain ⟨ho, hho⟩ : ∃ x, m.ho = x := ⟨_, rfl⟩
            have HHS : Hid (Hss w2 ho m.hs) := Lib.hid (by rw [← hho]; exact HM2.out.hs)
            rw [hho] at c51
            clear hho hX1 hp13 HP12 HB13
            go_wp2
            clear c51
            go_loopw [102] (fun i wz => ∃ j : Nat, j ≤ hn ∧ i = .int .i64 j ∧ Hid (PenW w2 wz w2.heap.size (X1 ++ (m.hs.take j).flatten))) (fun i _ => hn - (intOf i).toNat)
            case atStart => exact ⟨0, by omega, rfl, Lib.hid (by simpa using HP13.out)⟩
            case round =>
              obtain ⟨j, hj, rfl, HP⟩ := hrel
              by_cases hlt : j < hn
              · have hjl : j < m.hs.length := by rw [HHN.out]; exact hlt
                obtain ⟨g, off, rfl, hra⟩ := (HHS.out.same HP.out.same).at hjl
                have HX : Hid ((m.hs[j]).length = 32) := Lib.hid (HHS.out.1 _ (List.getElem_mem hjl))
                have HTK := Lib.hid (flat_take m.hs j hjl)
                have HTL := Lib.hid (flat32_take m.hs HHS.out.1 j (by omega))
                have HRA := Lib.hid hra
                clear hra
                generalize m.hs[j] = x at HX HTK HRA
                have HI : Hid ((Tryd.prog.info? 25).map (·.size) = some (u8s x).length) := Lib.hid (by rw [u8s_length, HX.out]; exact Tryd.sizeHashW)
                obtain ⟨w9', hw9⟩ : ∃ w9, (wr.alloc (.cells z32.toArray 25)).setRow wr.heap.size (u8s x).toArray = w9 := ⟨_, rfl⟩
                have HW9 := Lib.hid hw9
                have HN9 : Hid ((wr.alloc (.cells z32.toArray 25)).heap[wr.heap.size]? = some (.cells z32.toArray 25 (0, 0))) := Lib.hid (heap_alloc_new wr _)
                have HI9 := Lib.hid (Tryd.sizeHash x HX.out)
                have HZ9 : Hid (z32.toArray.size = (u8s x).toArray.size) := Lib.hid (size32 (List.replicate 32 0) x (by simp) HX.out)
                have HX9 : Hid (Bytes w9' (.slice (some ⟨wr.heap.size, 0, none⟩) 32 32) x) := Lib.hid (by
                  rw [← hw9]
                  exact Bytes.of_block (Whole.row (cs := z32) (heap_alloc_new wr _)) (by simp) 32 32 HX.out.symm)
                have HP9' : Hid (PenW w2 w9' w2.heap.size (X1 ++ (m.hs.take j).flatten)) := Lib.hid (by
                  rw [← hw9]
                  exact HP.out.keep (S := fun k => k = wr.heap.size) (((Keeps.refl _ _).alloc _).setRow _ _ (.inr rfl)) (fun j e => by omega))
                have hjn : (j : Int) < (hn : Int) := by omega
                have hj0 : (0 : Int) ≤ (j : Int) := by omega
                clear hw9 hjl
                go_wp2_with (first
                  | (refine wpList_load_mid (by rfl) 25 _ (by rfl) g (off + j * 32) (by rfl) (u8s x) _ HRA.out Tryd.underlying25 rfl HI.out ?_)
                  | (refine wpList_store_row (by rfl) 25 _ _ (by rfl) wr.heap.size (u8s x).toArray (by rfl) (by rfl) 25 z32.toArray HN9.out HI9.out HZ9.out (u8s_all _) ?_; rw [HW9.out]))
                ((with_reducible refine (raw_w w2.heap.size _ x _ _ HP9'.out HX9.out (by rw [List.length_append, HTL.out]; have := HL1.out; have := HX.out; omega)).mono ?_); rintro e w15 ⟨rfl, hp15⟩)
                have HP15 := Lib.hid hp15
                rw [List.append_assoc, HTK.out] at HP15
                clear hp15 HX9 HP9' HN9 HW9
                go_wp2
                go_roundw
                case rel => exact ⟨j + 1, by omega, by go_num, HP15⟩
                case measure => simp [intOf]; omega
              · obtain rfl : j = hn := by omega
                have hjn : ¬ (j : Int) < (j : Int) := by omega
                have HP14 : Hid (PenW w2 wr w2.heap.size (X1 ++ m.hs.flatten)) := Lib.hid (by
                  have := HP.out
                  rwa [List.take_of_length_le (by rw [HHN.out]; exact Nat.le_refl _)] at this)
                have HTL : Hid (m.hs.flatten.length ≤ 512) := Lib.hid (by rw [flat32 _ HHS.out.1, HHN.out]; omega)
                obtain ⟨X2, hX2⟩ : ∃ X, X1 ++ m.hs.flatten = X := ⟨_, rfl⟩
                have HL2 : Hid (X2.length ≤ 864) := Lib.hid (by rw [← hX2, List.length_append]; have := HTL.out; have := HL1.out; omega)
                rw [hX2] at HP14
                have HX2 := Lib.hid hX2
                have HB14 : Hid (MsgAt wr w.heap.size m) := Lib.hid (HB2.out.keep HP14.out.same (fun e => e))
                have c52 : wr.cell? ⟨w.heap.size, 52, none⟩ = some (.slice m.bo m.bs.length m.bcap) := HB14.out.high 13 52 _ rfl rfl
                obtain ⟨bn, hbn⟩ : ∃ n, m.bs.length = n := ⟨_, rfl⟩
                rw [hbn] at c52
                have HBN := Lib.hid hbn
                have bn64 : bn ≤ 64 := by have := HR.out.bs; omega
                have hu : IntKind.u64.wrap (bn : Int) = bn := IntWalk.u64_in (bn : Int) (by omega)
                clear hX2 HP HB14
                have HBRW : Hid (Rows2 w2 (.slice m.bo bn m.bcap) m.bs) := Lib.hid (by rw [← hbn]; exact HM2.out.bs)
                clear hbn
                go_wp2_with fail
                ((with_reducible refine (uint_w w2.heap.size _ bn 1 _ _ _ HP14.out (by have := HL2.out; omega) (by omega) (by omega) (by omega) (by omega) (by omega)).mono ?_); rintro e w16 ⟨rfl, hp16⟩)
                obtain ⟨X3, hX3⟩ : ∃ X, X2 ++ be bn 1 = X := ⟨_, rfl⟩
                have HL3' : Hid (X3.length ≤ 865) := Lib.hid (by rw [← hX3, List.length_append, be_length]; have := HL2.out; omega)
                rw [hX3] at hp16
                have HX3 := Lib.hid hX3
                have HP16 := Lib.hid hp16
                have HB16 : Hid (MsgAt w16 w.heap.size m) := Lib.hid (HB2.out.keep hp16.same (fun e => e))
                have c52 : w16.cell? ⟨w.heap.size, 52, none⟩ = some (.slice m.bo bn m.bcap) := by
                  have := HB16.out.high 13 52 _ rfl rfl
                  rwa [HBN.out] at this
                obtain ⟨bo, hbo⟩ : ∃ x, m.bo = x := ⟨_, rfl⟩
                rw [hbo] at c52 HBRW
                clear hbo hX3 hp16 HP14 HB16
                go_wp2
                clear c52
                have HEL : Hid ((m.bs.map (·.2)).length = bn) := Lib.hid (by rw [List.length_map, HBN.out])
                have HEA : Hid (∀ b ∈ m.bs.map (·.2), b.length ≤ 470) := Lib.hid (fun b hb => by
                  obtain ⟨r, h1, rfl⟩ := List.mem_map.1 hb
                  exact HR.out.each r h1)
                go_loopw [119] (fun i wz => ∃ j : Nat, j ≤ bn ∧ i = .int .i64 j ∧ Hid (PenW w2 wz w2.heap.size (X3 ++ txts ((m.bs.map (·.2)).take j)))) (fun i _ => bn - (intOf i).toNat)
                case atStart => exact ⟨0, by omega, rfl, Lib.hid (by simpa [txts] using HP16.out)⟩
                case round =>
                  obtain ⟨j, hj, rfl, HP⟩ := hrel
                  by_cases hlt : j < bn
                  · have hjl : j < m.bs.length := by rw [HBN.out]; exact hlt
                    have hjm : j < (m.bs.map (·.2)).length := by rw [HEL.out]; exact hlt
                    obtain ⟨a, xo, xc, rfl, hx, hc, hb⟩ := HBRW.out.at hjl
                    have hc2 := cell_same hc HP.out.same
                    have HGE : Hid ((m.bs.map (·.2))[j] = (m.bs[j]).2) := Lib.hid (by simp)
                    have HEJ : Hid ((m.bs[j]).2.length ≤ 470) := Lib.hid (HR.out.each _ (List.getElem_mem hjl))
                    have HTK := Lib.hid (txts_take (m.bs.map (·.2)) j hjm)
                    rw [HGE.out] at HTK
                    have HTL := Lib.hid (txts_take_len (m.bs.map (·.2)) HEA.out j (by omega))
                    have HBB := Lib.hid hb
                    clear hb hc HGE hx
                    generalize (m.bs[j]).2 = x at hc2 HEJ HTK HBB
                    have hjn : (j : Int) < (bn : Int) := by omega
                    have hj0 : (0 : Int) ≤ (j : Int) := by omega
                    clear hjl hjm
                    go_wp2_with fail
                    ((with_reducible refine (text_w w2.heap.size _ x _ _ _ _ HP.out HBB.out (by have := HEJ.out; omega) (by rw [List.length_append]; have := HTL.out; have := HL3'.out; have := HEJ.out; omega)).mono ?_); rintro e w17 ⟨rfl, hp17⟩)
                    have HP17 := Lib.hid hp17
                    rw [List.append_assoc, HTK.out] at HP17
                    clear hp17 hc2
                    go_wp2
                    go_roundw
                    case rel => exact ⟨j + 1, by omega, by go_num, HP17⟩
                    case measure => simp [intOf]; omega
                  · obtain rfl : j = bn := by omega
                    have hjn : ¬ (j : Int) < (j : Int) := by omega
                    have HBODY : Hid (X3 ++ txts (m.bs.map (·.2)) = m.bodyB) := Lib.hid (by
                      rw [← HX3.out, ← HX2.out, ← HX1.out]
                      unfold Msg.bodyB
                      rw [HHN.out, HBN.out])
                    have HP18 : Hid (PenW w2 wr w2.heap.size m.bodyB) := Lib.hid (by
                      have := HP.out
                      rw [List.take_of_length_le (by rw [HEL.out]; exact Nat.le_refl _), HBODY.out] at this
                      exact this)
                    have HBL : Hid (m.bodyB.length ≤ 31073 ∧ 0 < m.bodyB.length) := Lib.hid (by
                      have h1 := txts_take_len (m.bs.map (·.2)) HEA.out j (by omega)
                      rw [List.take_of_length_le (by rw [HEL.out]; exact Nat.le_refl _)] at h1
                      have h2 := HL3'.out
                      rw [← HBODY.out, List.length_append]
                      refine ⟨by omega, ?_⟩
                      rw [← HX3.out, List.length_append, be_length]; omega)
                    obtain ⟨Y, hY⟩ : ∃ Y, m.bodyB = Y := ⟨_, rfl⟩
                    have HFIN : Hid (m.bytes = Y ++ (shaOf Y).take 8) := Lib.hid (by rw [← hY]; rfl)
                    rw [hY] at HP18 HBL
                    obtain ⟨L, hL⟩ : ∃ L, Y.length = L := ⟨_, rfl⟩
                    have HYL := Lib.hid hL
                    rw [hL] at HBL
                    clear hY hL HP HP16 HBODY
                    go_wp2_with fail
                    ((with_reducible refine (data_w w2.heap.size _ _ HP18.out (by have := HYL.out; have := HBL.out; omega)).mono ?_); rintro e w19 ⟨v, rfl, ho19, hk19⟩)
                    rw [HYL.out] at ho19
                    obtain ⟨g7, c7, rfl⟩ : ∃ g7 c7, v = .slice (some ⟨g7, 0, none⟩) L c7 := by
                      rcases ho19.2 with ⟨_, h0⟩ | ⟨g, cp, cur, h, _⟩
                      · have := HBL.out; omega
                      · exact ⟨g, cp, h⟩
                    have HO19 := Lib.hid ho19
                    have HC19 := Lib.hid (own_cap ho19)
                    have HP19 := Lib.hid (HP18.out.same' hk19)
                    have HN19 : Hid (Nums w19) := Lib.hid (HNUM.out.keep (HK2.out.trans (HP18.out.same' hk19).same (fun _ _ e => e)) (fun e => e))
                    clear ho19 hk19 HP18
                    go_wp2_with fail
                    ((with_reducible refine (shaSum_any _ L c7 Y _ (Bytes.of_own' HO19.out HYL.out) HYL.out HC19.out.1 HC19.out.2 (by have := HBL.out; omega) HN19.out).mono ?_); rintro e w20 ⟨rfl, hk20⟩)
                    have HP20 := Lib.hid (HP19.out.same' hk20)
                    clear hk20 HP19 HO19 HC19
                    obtain ⟨w9', hw9⟩ : ∃ w9, (w20.alloc (.cells z32.toArray 25)).setRow w20.heap.size (u8s (shaOf Y)).toArray = w9 := ⟨_, rfl⟩
                    have HW9 := Lib.hid hw9
                    have HN9 : Hid ((w20.alloc (.cells z32.toArray 25)).heap[w20.heap.size]? = some (.cells z32.toArray 25 (0, 0))) := Lib.hid (heap_alloc_new w20 _)
                    have HI9 := Lib.hid (Tryd.sizeHash (shaOf Y) (shaOf_length _))
                    have HZ9 : Hid (z32.toArray.size = (u8s (shaOf Y)).toArray.size) := Lib.hid (size32 (List.replicate 32 0) (shaOf Y) (by simp) (shaOf_length _))
                    have HSL : Hid (((shaOf Y).take 8).length = 8) := Lib.hid (by rw [List.length_take, shaOf_length]; rfl)
                    have HX9 : Hid (Bytes w9' (.slice (some ⟨w20.heap.size, 0, none⟩) 8 32) ((shaOf Y).take 8)) := Lib.hid (by
                      rw [← hw9]
                      have h1 : Bytes ((w20.alloc (.cells z32.toArray 25)).setRow w20.heap.size (u8s (shaOf Y)).toArray) (.slice (some ⟨w20.heap.size, 0, none⟩) (shaOf Y).length 32) (shaOf Y) := Bytes.of_block (Whole.row (cs := z32) (heap_alloc_new w20 _)) (by simp) _ 32 rfl
                      exact Bytes.take h1 8 (by rw [shaOf_length]; omega))
                    have HP9' : Hid (PenW w2 w9' w2.heap.size Y) := Lib.hid (by
                      rw [← hw9]
                      exact HP20.out.keep (S := fun k => k = w20.heap.size) (((Keeps.refl _ _).alloc _).setRow _ _ (.inr rfl)) (fun j e => by omega))
                    clear hw9
                    go_wp2_with (first
                      | (refine wpList_store_row (by rfl) 25 _ _ (by rfl) w20.heap.size (u8s (shaOf Y)).toArray (by rfl) (by rfl) 25 z32.toArray HN9.out HI9.out HZ9.out (u8s_all _) ?_; rw [HW9.out]))
                    ((with_reducible refine (raw_w w2.heap.size _ ((shaOf Y).take 8) _ _ HP9'.out HX9.out (by rw [HSL.out]; have := HYL.out; have := HBL.out; omega)).mono ?_); rintro e w21 ⟨rfl, hp21⟩)
                    rw [← HFIN.out] at hp21
                    have HP21 := Lib.hid hp21
                    have HML : Hid (m.bytes.length ≤ 40000) := Lib.hid (by rw [HFIN.out, List.length_append, HSL.out, HYL.out]; have := HBL.out; omega)
                    clear hp21 HX9 HP9' HW9 HN9
                    go_wp2_with fail
                    ((with_reducible refine (data_w w2.heap.size _ _ HP21.out (by have := HML.out; omega)).mono ?_); rintro e w22 ⟨v, rfl, ho22, hk22⟩)
                    have HO22 : Hid (w22.ownsRow w.heap.size 5 1 v m.bytes.length (u8s m.bytes)) := Lib.hid (own_base ho22 (by have h1 := HK2.out.size; have h2 := HP21.out.same.size; omega))
                    have HK22 : Hid (Same w w22) := Lib.hid ((HK2.out.trans HP21.out.same (fun _ _ e => e)).trans hk22 (fun _ _ e => e))
                    clear ho22 hk22
                    go_wp2
                    go_ret2
                    exact ⟨HK22.out, .inl ⟨HR.out, v, rfl, HO22.out⟩⟩
          have e2 : (m.k == 2) = false := by simpa using k2
          have HAB : Hid (m.ansB = []) := Lib.hid (if_neg k2)
          clear k2
          have HNIL : Hid (Bytes w2 (.slice none 0 0) []) := Lib.hid (Bytes.nil _ _ _)
          go_wp2_with fail
          ((with_reducible refine (text_w w2.heap.size _ [] none 0 0 _ HP9.out HNIL.out (by simp) (by have := HHL9.out; simp only [List.length_nil]; omega)).mono ?_); rintro e w11 ⟨rfl, hp11⟩)
          have HP11 := Lib.hid hp11
          clear hp11
          go_wp2_with fail
          ((with_reducible refine (text_w w2.heap.size _ [] none 0 0 _ HP11.out HNIL.out (by simp) (by have := HHL9.out; simp only [List.length_append, be_length, List.length_nil]; omega)).mono ?_); rintro e w12 ⟨rfl, hp12⟩)
          have HP12 : Hid (PenW w2 w12 w2.heap.size m.frontB) := Lib.hid (by
            unfold Msg.frontB txt
            rw [HOB.out, HAB.out]
            exact hp12)
          clear hp12 HP11 c0 e1 e2
          have HFL : Hid (m.frontB.length ≤ 351) := Lib.hid (HR.out.front_len HHL.out)
          have HB12 : Hid (MsgAt w12 w.heap.size m) := Lib.hid (HB2.out.keep HP12.out.same (fun e => e))
          have c51 : w12.cell? ⟨w.heap.size, 51, none⟩ = some (.slice m.ho m.hs.length m.hcap) := HB12.out.high 12 51 _ rfl rfl
          obtain ⟨hn, hhn⟩ : ∃ n, m.hs.length = n := ⟨_, rfl⟩
          rw [hhn] at c51
          have HHN := Lib.hid hhn
          have hn16 : hn ≤ 16 := by have := HR.out.hs; omega
          have hu : IntKind.u64.wrap (hn : Int) = hn := IntWalk.u64_in (hn : Int) (by omega)
          clear hhn HB12
          go_wp2_with fail
          ((with_reducible refine (uint_w w2.heap.size _ hn 1 _ _ _ HP12.out (by have := HFL.out; omega) (by omega) (by omega) (by omega) (by omega) (by omega)).mono ?_); rintro e w13 ⟨rfl, hp13⟩)
          obtain ⟨X1, hX1⟩ : ∃ X, m.frontB ++ be hn 1 = X := ⟨_, rfl⟩
          have HL1 : Hid (X1.length ≤ 352) := Lib.hid (by rw [← hX1, List.length_append, be_length]; have := HFL.out; omega)
          rw [hX1] at hp13
          have HX1 := Lib.hid hX1
          have HP13 := Lib.hid hp13
          have HB13 : Hid (MsgAt w13 w.heap.size m) := Lib.hid (HB2.out.keep hp13.same (fun e => e))
          have c51 : w13.cell? ⟨w.heap.size, 51, none⟩ = some (.slice m.ho hn m.hcap) := by
            have := HB13.out.high 12 51 _ rfl rfl
            rwa [HHN.out] at this
          obtain ⟨ho, hho⟩ : ∃ x, m.ho = x := ⟨_, rfl⟩
          have HHS : Hid (Hss w2 ho m.hs) := Lib.hid (by rw [← hho]; exact HM2.out.hs)
          rw [hho] at c51
          clear hho hX1 hp13 HP12 HB13
          go_wp2
          clear c51
          go_loopw [102] (fun i wz => ∃ j : Nat, j ≤ hn ∧ i = .int .i64 j ∧ Hid (PenW w2 wz w2.heap.size (X1 ++ (m.hs.take j).flatten))) (fun i _ => hn - (intOf i).toNat)
          case atStart => exact ⟨0, by omega, rfl, Lib.hid (by simpa using HP13.out)⟩
          case round =>
            obtain ⟨j, hj, rfl, HP⟩ := hrel
            by_cases hlt : j < hn
            · have hjl : j < m.hs.length := by rw [HHN.out]; exact hlt
              obtain ⟨g, off, rfl, hra⟩ := (HHS.out.same HP.out.same).at hjl
              have HX : Hid ((m.hs[j]).length = 32) := Lib.hid (HHS.out.1 _ (List.getElem_mem hjl))
              have HTK := Lib.hid (flat_take m.hs j hjl)
              have HTL := Lib.hid (flat32_take m.hs HHS.out.1 j (by omega))
              have HRA := Lib.hid hra
              clear hra
              generalize m.hs[j] = x at HX HTK HRA
              have HI : Hid ((Tryd.prog.info? 25).map (·.size) = some (u8s x).length) := Lib.hid (by rw [u8s_length, HX.out]; exact Tryd.sizeHashW)
              obtain ⟨w9', hw9⟩ : ∃ w9, (wr.alloc (.cells z32.toArray 25)).setRow wr.heap.size (u8s x).toArray = w9 := ⟨_, rfl⟩
              have HW9 := Lib.hid hw9
              have HN9 : Hid ((wr.alloc (.cells z32.toArray 25)).heap[wr.heap.size]? = some (.cells z32.toArray 25 (0, 0))) := Lib.hid (heap_alloc_new wr _)
              have HI9 := Lib.hid (Tryd.sizeHash x HX.out)
              have HZ9 : Hid (z32.toArray.size = (u8s x).toArray.size) := Lib.hid (size32 (List.replicate 32 0) x (by simp) HX.out)
              have HX9 : Hid (Bytes w9' (.slice (some ⟨wr.heap.size, 0, none⟩) 32 32) x) := Lib.hid (by
                rw [← hw9]
                exact Bytes.of_block (Whole.row (cs := z32) (heap_alloc_new wr _)) (by simp) 32 32 HX.out.symm)
              have HP9' : Hid (PenW w2 w9' w2.heap.size (X1 ++ (m.hs.take j).flatten)) := Lib.hid (by
                rw [← hw9]
                exact HP.out.keep (S := fun k => k = wr.heap.size) (((Keeps.refl _ _).alloc _).setRow _ _ (.inr rfl)) (fun j e => by omega))
              have hjn : (j : Int) < (hn : Int) := by omega
              have hj0 : (0 : Int) ≤ (j : Int) := by omega
              clear hw9 hjl
              go_wp2_with (first
                | (refine wpList_load_mid (by rfl) 25 _ (by rfl) g (off + j * 32) (by rfl) (u8s x) _ HRA.out Tryd.underlying25 rfl HI.out ?_)
                | (refine wpList_store_row (by rfl) 25 _ _ (by rfl) wr.heap.size (u8s x).toArray (by rfl) (by rfl) 25 z32.toArray HN9.out HI9.out HZ9.out (u8s_all _) ?_; rw [HW9.out]))
              ((with_reducible refine (raw_w w2.heap.size _ x _ _ HP9'.out HX9.out (by rw [List.length_append, HTL.out]; have := HL1.out; have := HX.out; omega)).mono ?_); rintro e w15 ⟨rfl, hp15⟩)
              have HP15 := Lib.hid hp15
              rw [List.append_assoc, HTK.out] at HP15
              clear hp15 HX9 HP9' HN9 HW9
              go_wp2
              go_roundw
              case rel => exact ⟨j + 1, by omega, by go_num, HP15⟩
              case measure => simp [intOf]; omega
            · obtain rfl : j = hn := by omega
              have hjn : ¬ (j : Int) < (j : Int) := by omega
              have HP14 : Hid (PenW w2 wr w2.heap.size (X1 ++ m.hs.flatten)) := Lib.hid (by
                have := HP.out
                rwa [List.take_of_length_le (by rw [HHN.out]; exact Nat.le_refl _)] at this)
              have HTL : Hid (m.hs.flatten.length ≤ 512) := Lib.hid (by rw [flat32 _ HHS.out.1, HHN.out]; omega)
              obtain ⟨X2, hX2⟩ : ∃ X, X1 ++ m.hs.flatten = X := ⟨_, rfl⟩
              have HL2 : Hid (X2.length ≤ 864) := Lib.hid (by rw [← hX2, List.length_append]; have := HTL.out; have := HL1.out; omega)
              rw [hX2] at HP14
              have HX2 := Lib.hid hX2
              have HB14 : Hid (MsgAt wr w.heap.size m) := Lib.hid (HB2.out.keep HP14.out.same (fun e => e))
              have c52 : wr.cell? ⟨w.heap.size, 52, none⟩ = some (.slice m.bo m.bs.length m.bcap) := HB14.out.high 13 52 _ rfl rfl
              obtain ⟨bn, hbn⟩ : ∃ n, m.bs.length = n := ⟨_, rfl⟩
              rw [hbn] at c52
              have HBN := Lib.hid hbn
              have bn64 : bn ≤ 64 := by have := HR.out.bs; omega
              have hu : IntKind.u64.wrap (bn : Int) = bn := IntWalk.u64_in (bn : Int) (by omega)
              clear hX2 HP HB14
              have HBRW : Hid (Rows2 w2 (.slice m.bo bn m.bcap) m.bs) := Lib.hid (by rw [← hbn]; exact HM2.out.bs)
              clear hbn
              go_wp2_with fail
              ((with_reducible refine (uint_w w2.heap.size _ bn 1 _ _ _ HP14.out (by have := HL2.out; omega) (by omega) (by omega) (by omega) (by omega) (by omega)).mono ?_); rintro e w16 ⟨rfl, hp16⟩)
              obtain ⟨X3, hX3⟩ : ∃ X, X2 ++ be bn 1 = X := ⟨_, rfl⟩
              have HL3' : Hid (X3.length ≤ 865) := Lib.hid (by rw [← hX3, List.length_append, be_length]; have := HL2.out; omega)
              rw [hX3] at hp16
              have HX3 := Lib.hid hX3
              have HP16 := Lib.hid hp16
              have HB16 : Hid (MsgAt w16 w.heap.size m) := Lib.hid (HB2.out.keep hp16.same (fun e => e))
              have c52 : w16.cell? ⟨w.heap.size, 52, none⟩ = some (.slice m.bo bn m.bcap) := by
                have := HB16.out.high 13 52 _ rfl rfl
                rwa [HBN.out] at this
              obtain ⟨bo, hbo⟩ : ∃ x, m.bo = x := ⟨_, rfl⟩
              rw [hbo] at c52 HBRW
              clear hbo hX3 hp16 HP14 HB16
              go_wp2
              clear c52
              have HEL : Hid ((m.bs.map (·.2)).length = bn) := Lib.hid (by rw [List.length_map, HBN.out])
              have HEA : Hid (∀ b ∈ m.bs.map (·.2), b.length ≤ 470) := Lib.hid (fun b hb => by
                obtain ⟨r, h1, rfl⟩ := List.mem_map.1 hb
                exact HR.out.each r h1)
              go_loopw [119] (fun i wz => ∃ j : Nat, j ≤ bn ∧ i = .int .i64 j ∧ Hid (PenW w2 wz w2.heap.size (X3 ++ txts ((m.bs.map (·.2)).take j)))) (fun i _ => bn - (intOf i).toNat)
              case atStart => exact ⟨0, by omega, rfl, Lib.hid (by simpa [txts] using HP16.out)⟩
              case round =>
                obtain ⟨j, hj, rfl, HP⟩ := hrel
                by_cases hlt : j < bn
                · have hjl : j < m.bs.length := by rw [HBN.out]; exact hlt
                  have hjm : j < (m.bs.map (·.2)).length := by rw [HEL.out]; exact hlt
                  obtain ⟨a, xo, xc, rfl, hx, hc, hb⟩ := HBRW.out.at hjl
                  have hc2 := cell_same hc HP.out.same
                  have HGE : Hid ((m.bs.map (·.2))[j] = (m.bs[j]).2) := Lib.hid (by simp)
                  have HEJ : Hid ((m.bs[j]).2.length ≤ 470) := Lib.hid (HR.out.each _ (List.getElem_mem hjl))
                  have HTK := Lib.hid (txts_take (m.bs.map (·.2)) j hjm)
                  rw [HGE.out] at HTK
                  have HTL := Lib.hid (txts_take_len (m.bs.map (·.2)) HEA.out j (by omega))
                  have HBB := Lib.hid hb
                  clear hb hc HGE hx
                  generalize (m.bs[j]).2 = x at hc2 HEJ HTK HBB
                  have hjn : (j : Int) < (bn : Int) := by omega
                  have hj0 : (0 : Int) ≤ (j : Int) := by omega
                  clear hjl hjm
                  go_wp2_with fail
                  ((with_reducible refine (text_w w2.heap.size _ x _ _ _ _ HP.out HBB.out (by have := HEJ.out; omega) (by rw [List.length_append]; have := HTL.out; have := HL3'.out; have := HEJ.out; omega)).mono ?_); rintro e w17 ⟨rfl, hp17⟩)
                  have HP17 := Lib.hid hp17
                  rw [List.append_assoc, HTK.out] at HP17
                  clear hp17 hc2
                  go_wp2
                  go_roundw
                  case rel => exact ⟨j + 1, by omega, by go_num, HP17⟩
                  case measure => simp [intOf]; omega
                · obtain rfl : j = bn := by omega
                  have hjn : ¬ (j : Int) < (j : Int) := by omega
                  have HBODY : Hid (X3 ++ txts (m.bs.map (·.2)) = m.bodyB) := Lib.hid (by
                    rw [← HX3.out, ← HX2.out, ← HX1.out]
                    unfold Msg.bodyB
                    rw [HHN.out, HBN.out])
                  have HP18 : Hid (PenW w2 wr w2.heap.size m.bodyB) := Lib.hid (by
                    have := HP.out
                    rw [List.take_of_length_le (by rw [HEL.out]; exact Nat.le_refl _), HBODY.out] at this
                    exact this)
                  have HBL : Hid (m.bodyB.length ≤ 31073 ∧ 0 < m.bodyB.length) := Lib.hid (by
                    have h1 := txts_take_len (m.bs.map (·.2)) HEA.out j (by omega)
                    rw [List.take_of_length_le (by rw [HEL.out]; exact Nat.le_refl _)] at h1
                    have h2 := HL3'.out
                    rw [← HBODY.out, List.length_append]
                    refine ⟨by omega, ?_⟩
                    rw [← HX3.out, List.length_append, be_length]; omega)
                  obtain ⟨Y, hY⟩ : ∃ Y, m.bodyB = Y := ⟨_, rfl⟩
                  have HFIN : Hid (m.bytes = Y ++ (shaOf Y).take 8) := Lib.hid (by rw [← hY]; rfl)
                  rw [hY] at HP18 HBL
                  obtain ⟨L, hL⟩ : ∃ L, Y.length = L := ⟨_, rfl⟩
                  have HYL := Lib.hid hL
                  rw [hL] at HBL
                  clear hY hL HP HP16 HBODY
                  go_wp2_with fail
                  ((with_reducible refine (data_w w2.heap.size _ _ HP18.out (by have := HYL.out; have := HBL.out; omega)).mono ?_); rintro e w19 ⟨v, rfl, ho19, hk19⟩)
                  rw [HYL.out] at ho19
                  obtain ⟨g7, c7, rfl⟩ : ∃ g7 c7, v = .slice (some ⟨g7, 0, none⟩) L c7 := by
                    rcases ho19.2 with ⟨_, h0⟩ | ⟨g, cp, cur, h, _⟩
                    · have := HBL.out; omega
                    · exact ⟨g, cp, h⟩
                  have HO19 := Lib.hid ho19
                  have HC19 := Lib.hid (own_cap ho19)
                  have HP19 := Lib.hid (HP18.out.same' hk19)
                  have HN19 : Hid (Nums w19) := Lib.hid (HNUM.out.keep (HK2.out.trans (HP18.out.same' hk19).same (fun _ _ e => e)) (fun e => e))
                  clear ho19 hk19 HP18
                  go_wp2_with fail
                  ((with_reducible refine (shaSum_any _ L c7 Y _ (Bytes.of_own' HO19.out HYL.out) HYL.out HC19.out.1 HC19.out.2 (by have := HBL.out; omega) HN19.out).mono ?_); rintro e w20 ⟨rfl, hk20⟩)
                  have HP20 := Lib.hid (HP19.out.same' hk20)
                  clear hk20 HP19 HO19 HC19
                  obtain ⟨w9', hw9⟩ : ∃ w9, (w20.alloc (.cells z32.toArray 25)).setRow w20.heap.size (u8s (shaOf Y)).toArray = w9 := ⟨_, rfl⟩
                  have HW9 := Lib.hid hw9
                  have HN9 : Hid ((w20.alloc (.cells z32.toArray 25)).heap[w20.heap.size]? = some (.cells z32.toArray 25 (0, 0))) := Lib.hid (heap_alloc_new w20 _)
                  have HI9 := Lib.hid (Tryd.sizeHash (shaOf Y) (shaOf_length _))
                  have HZ9 : Hid (z32.toArray.size = (u8s (shaOf Y)).toArray.size) := Lib.hid (size32 (List.replicate 32 0) (shaOf Y) (by simp) (shaOf_length _))
                  have HSL : Hid (((shaOf Y).take 8).length = 8) := Lib.hid (by rw [List.length_take, shaOf_length]; rfl)
                  have HX9 : Hid (Bytes w9' (.slice (some ⟨w20.heap.size, 0, none⟩) 8 32) ((shaOf Y).take 8)) := Lib.hid (by
                    rw [← hw9]
                    have h1 : Bytes ((w20.alloc (.cells z32.toArray 25)).setRow w20.heap.size (u8s (shaOf Y)).toArray) (.slice (some ⟨w20.heap.size, 0, none⟩) (shaOf Y).length 32) (shaOf Y) := Bytes.of_block (Whole.row (cs := z32) (heap_alloc_new w20 _)) (by simp) _ 32 rfl
                    exact Bytes.take h1 8 (by rw [shaOf_length]; omega))
                  have HP9' : Hid (PenW w2 w9' w2.heap.size Y) := Lib.hid (by
                    rw [← hw9]
                    exact HP20.out.keep (S := fun k => k = w20.heap.size) (((Keeps.refl _ _).alloc _).setRow _ _ (.inr rfl)) (fun j e => by omega))
                  clear hw9
                  go_wp2_with (first
                    | (refine wpList_store_row (by rfl) 25 _ _ (by rfl) w20.heap.size (u8s (shaOf Y)).toArray (by rfl) (by rfl) 25 z32.toArray HN9.out HI9.out HZ9.out (u8s_all _) ?_; rw [HW9.out]))
                  ((with_reducible refine (raw_w w2.heap.size _ ((shaOf Y).take 8) _ _ HP9'.out HX9.out (by rw [HSL.out]; have := HYL.out; have := HBL.out; omega)).mono ?_); rintro e w21 ⟨rfl, hp21⟩)
                  rw [← HFIN.out] at hp21
                  have HP21 := Lib.hid hp21
                  have HML : Hid (m.bytes.length ≤ 40000) := Lib.hid (by rw [HFIN.out, List.length_append, HSL.out, HYL.out]; have := HBL.out; omega)
                  clear hp21 HX9 HP9' HW9 HN9
                  go_wp2_with fail
                  ((with_reducible refine (data_w w2.heap.size _ _ HP21.out (by have := HML.out; omega)).mono ?_); rintro e w22 ⟨v, rfl, ho22, hk22⟩)
                  have HO22 : Hid (w22.ownsRow w.heap.size 5 1 v m.bytes.length (u8s m.bytes)) := Lib.hid (own_base ho22 (by have h1 := HK2.out.size; have h2 := HP21.out.same.size; omega))
                  have HK22 : Hid (Same w w22) := Lib.hid ((HK2.out.trans HP21.out.same (fun _ _ e => e)).trans hk22 (fun _ _ e => e))
                  clear ho22 hk22
                  go_wp2
                  go_ret2
                  exact ⟨HK22.out, .inl ⟨HR.out, v, rfl, HO22.out⟩⟩
end Go.Proofs.YtcbkopjklbiheaaDoor
