/- Fates: what disk.remainder and disk.suffer do; a copy of sectors. -/
import Derived.Test.YtoimhniijeafaaaDk4
import Derived.Test.YtoimhniijeafaaaInts
namespace Go.Proofs.Ytoimhniijeafaaa
open Go.RowKit
set_option linter.unusedVariables false

theorem and_low (x : Int) (k : Nat) (c : Int) (hc : (BitVec.ofInt IntKind.i64.bits c).toNat = 2 ^ k - 1) (hk : 2 ^ k ∣ 2 ^ 64) (hk2 : (2 : Int) ^ k ≤ 9223372036854775807) : bits BinOp.and IntKind.i64 x c = x % (2 : Int) ^ k := by
  have h4 : bits BinOp.and IntKind.i64 x c = IntKind.i64.wrap ((BitVec.ofInt IntKind.i64.bits x &&& BitVec.ofInt IntKind.i64.bits c).toNat : Int) := rfl
  have h2 : ((BitVec.ofInt IntKind.i64.bits x &&& BitVec.ofInt IntKind.i64.bits c).toNat : Int) = x % (2 : Int) ^ k := by
    rw [BitVec.toNat_and, hc, Nat.and_two_pow_sub_one_eq_mod]
    have h5 : ((BitVec.ofInt IntKind.i64.bits x).toNat : Int) = x % (2 : Int) ^ 64 := by
      rw [BitVec.toNat_ofInt]
      have : (0 : Int) ≤ x % (2 : Int) ^ 64 := Int.emod_nonneg _ (by decide)
      show (((x % ((2 ^ 64 : Nat) : Int)).toNat : Nat) : Int) = _
      rw [Int.toNat_of_nonneg (by simpa using this)]
      rfl
    rw [Int.natCast_emod, h5]
    obtain ⟨d, hd⟩ := hk
    have hd' : (2 : Int) ^ 64 = (2 : Int) ^ k * (d : Int) := by exact_mod_cast hd
    rw [show (((2 ^ k : Nat) : Nat) : Int) = (2 : Int) ^ k from by simp, hd', Int.emod_emod_of_dvd _ (Int.dvd_mul_right _ _)]
  rw [h4, h2, IntWalk.i64_in _]
  have h0 : (0 : Int) < (2 : Int) ^ k := Int.pow_pos (by decide)
  have h6 := Int.emod_nonneg x (show (2 : Int) ^ k ≠ 0 by omega)
  have h7 := Int.emod_lt_of_pos x h0
  omega
theorem and_3 (x : Int) : bits BinOp.and IntKind.i64 x 3 = x % 4 := and_low x 2 3 (by decide) ⟨2 ^ 62, by decide⟩ (by decide)
theorem and_7 (x : Int) : bits BinOp.and IntKind.i64 x 7 = x % 8 := and_low x 3 7 (by decide) ⟨2 ^ 61, by decide⟩ (by decide)
theorem and_15 (x : Int) : bits BinOp.and IntKind.i64 x 15 = x % 16 := and_low x 4 15 (by decide) ⟨2 ^ 60, by decide⟩ (by decide)
theorem and_1023' (x : Int) : bits BinOp.and IntKind.i64 x 1023 = x % 1024 := and_low x 10 1023 (by decide) ⟨2 ^ 54, by decide⟩ (by decide)

set_option maxRecDepth 100000 in
set_option maxHeartbeats 800000 in
theorem remainder_ok (a : Int) (w : World) :
    Calls Try.prog 35 #[.int .i64 a, .int .i64 513] w fun e w' => e = .returned (.int .i64 (a % 513)) ∧ w' = w := by
  have h0 := Int.emod_nonneg a (show (513 : Int) ≠ 0 by decide)
  have h00 := Int.emod_lt_of_pos a (show (0 : Int) < 513 by decide)
  have h1 : a.tmod 513 = a % 513 ∨ a.tmod 513 = a % 513 - 513 := by
    rw [Int.tmod_eq_emod]
    split <;> simp
  have h2 : (a.tmod 513 + 513).tmod 513 = a % 513 := by
    rw [Int.tmod_eq_emod_of_nonneg (by omega)]
    omega
  have u1 : IntKind.i64.wrap (a.tmod 513) = a.tmod 513 := IntWalk.i64_in _ (by omega)
  have u2 : IntKind.i64.wrap (a.tmod 513 + 513) = a.tmod 513 + 513 := IntWalk.i64_in _ (by omega)
  have u3 : IntKind.i64.wrap (a % 513) = a % 513 := IntWalk.i64_in _ (by omega)
  clear h0 h00 h1
  go_enter Try.func35, Try.ntmps35
  go_wp2
  go_ret
  exact ⟨rfl, rfl⟩

theorem wpList_copy_run {P : Program} {ops : Array Oper} {rest : List Oper} {o : Oper} {a : Act} {w : World} {Q : Exit → Act → World → Prop} (hgd : o.guard = none) (s x : Operand) (dT sT : TypeId)
    (ho : o.op = .call { callee := .builtin .copy, args := #[s, x], argTypes := #[dT, sT] }) (v xv r : Value) (w' : World) (hs : a.eval s = v) (hx : a.eval x = xv)
    (hr : (Builtin.copy_ #[dT, sT] o.type #[v, xv]).run P w = .ok r w') (hK : wpList P ops Q rest (a.put o.dst r) w') :
    wpList P ops Q (o :: rest) a w :=
  wpList_plain hgd fun K hK' => by
    unfold Oper.wp execOp
    simp only [ho, resolve, invoke, builtin, Sem.run_bind, Sem.run_pure, Result.andThen_ok, List.map_toArray, List.map_cons, List.map_nil, hs, hx, hr]
    exact hK' _ _ hK

/-- What a fate makes of a sector. -/
def suffered (old new : List UInt8) (fate : Int) : List UInt8 :=
  if fate % 4 = 1 then new else if fate % 4 = 2 then new.take ((fate / 4) % 513).toNat ++ old.drop ((fate / 4) % 513).toNat
  else if fate % 4 = 3 then old.take ((fate / 4) % 513).toNat ++ new.drop ((fate / 4) % 513).toNat else old
theorem suffered_length {old new : List UInt8} (h1 : old.length = 512) (h2 : new.length = 512) (fate : Int) : (suffered old new fate).length = 512 := by
  have h3 := Int.emod_nonneg (fate / 4) (show (513 : Int) ≠ 0 by decide)
  have h4 := Int.emod_lt_of_pos (fate / 4) (show (0 : Int) < 513 by decide)
  unfold suffered
  split
  · exact h2
  · split
    · rw [List.length_append, List.length_take, List.length_drop]; omega
    · split
      · rw [List.length_append, List.length_take, List.length_drop]; omega
      · exact h1
theorem splice_mid {l A X B V : List Value} {off n : Nat} (hl : l = A ++ (X ++ B)) (hA : A.length = off) (hn : n + V.length ≤ X.length) : l.take (off + n) ++ V ++ l.drop (off + n + V.length) = A ++ (X.take n ++ V ++ X.drop (n + V.length)) ++ B := by
  subst hl
  have h1 : (A ++ (X ++ B)).take (off + n) = A ++ X.take n := by
    rw [List.take_append, List.take_of_length_le (l := A) (by omega), hA, show off + n - off = n from by omega, List.take_append_of_le_length (by omega)]
  have h2 : (A ++ (X ++ B)).drop (off + n + V.length) = X.drop (n + V.length) ++ B := by
    rw [List.drop_append, List.drop_of_length_le (l := A) (by omega), hA, show off + n + V.length - off = n + V.length from by omega, List.drop_append_of_le_length (by omega), List.nil_append]
  rw [h1, h2]
  simp [List.append_assoc]
theorem seg_of_range {w : World} {g off : Nat} {t : TypeId} {cur : Array Value} {X : List Value} (hg : w.heap[g]? = some (.cells cur t (0, 0))) (h : w.rangeAt g off X) (hf : off + X.length ≤ cur.size) : cur.toList = cur.toList.take off ++ (X ++ cur.toList.drop (off + X.length)) := by
  have h1 : (cur.toList.drop off).take X.length = X := by
    apply List.ext_getElem?
    intro j
    by_cases hj : j < X.length
    · rw [List.getElem?_take_of_lt hj, List.getElem?_drop]
      have := h j X[j] (List.getElem?_eq_getElem hj)
      rw [cell_of_row _ _ _ _ _ _ hg] at this
      rw [Array.getElem?_toList, this, List.getElem?_eq_getElem hj]
    · rw [List.getElem?_eq_none (by simp; omega), List.getElem?_eq_none (by omega)]
  have h2 := List.take_append_drop off cur.toList
  have h3 := List.take_append_drop X.length (cur.toList.drop off)
  rw [h1, List.drop_drop] at h3
  rw [h3]
  exact h2.symm

set_option maxRecDepth 100000 in
set_option maxHeartbeats 3200000 in
theorem suffer_ok (g off b o c : Nat) (t : TypeId) (cur : Array Value) (old new : List UInt8) (fate : Int) (w : World) (hg : w.heap[g]? = some (.cells cur t (0, 0))) (hf : off + 512 ≤ cur.size) (hold : w.rangeAt g off (u8s old)) (hol : old.length = 512) (hnew : w.rangeAt b o (u8s new)) (hnl : new.length = 512) (hc : 512 ≤ c) :
    Calls Try.prog 29 #[.pointer (some ⟨g, off, none⟩), .slice (some ⟨b, o, none⟩) 512 c, .int .i64 fate] w fun e w' => (∃ v, e = .returned v) ∧ Keeps (fun k => k = g) w w' ∧ w'.heap[g]? = some (.cells (cur.toList.take off ++ u8s (suffered old new fate) ++ cur.toList.drop (off + 512)).toArray t (0, 0)) := by
  have h3 := Int.emod_nonneg (fate / 4) (show (513 : Int) ≠ 0 by decide)
  have h4 := Int.emod_lt_of_pos (fate / 4) (show (0 : Int) < 513 by decide)
  obtain ⟨n, hn⟩ : ∃ n : Nat, (fate / 4) % 513 = n := ⟨_, (Int.toNat_of_nonneg h3).symm⟩
  have hX : (u8s old).length = 512 := by rw [u8s_length, hol]
  have hseg := seg_of_range hg hold (by rw [hX]; exact hf)
  rw [hX] at hseg
  have hA : (cur.toList.take off).length = off := by rw [List.length_take, Array.length_toList]; omega
  have hsh : fate.fdiv 4 = fate / 4 := by rw [Int.fdiv_eq_ediv_of_nonneg _ (by decide)]
  have hand := and_3 fate
  have hU : Hid (Option.map (fun x => x.size) (Try.prog.info? 5) = some 1) := Lib.hid (by kernel_rfl)
  have h5 := Int.emod_nonneg fate (show (4 : Int) ≠ 0 by decide)
  have h6 := Int.emod_lt_of_pos fate (show (0 : Int) < 4 by decide)
  have hfin : ∀ (V : List UInt8) (p : Nat), p + V.length ≤ 512 → (old.take p ++ V ++ old.drop (p + V.length)) = suffered old new fate → (cur.toList.take (off + p) ++ u8s V ++ cur.toList.drop (off + p + (u8s V).length)) = cur.toList.take off ++ u8s (suffered old new fate) ++ cur.toList.drop (off + 512) := by
    intro V p hp he
    rw [splice_mid hseg hA (by rw [hX, u8s_length]; exact hp), ← he, u8s_append, u8s_append, u8s_length]
    simp [u8s, List.map_take, List.map_drop]
  have HG := Lib.hid hg
  have HF := Lib.hid hfin
  have HN := Lib.hid hnew
  have HNN := Lib.hid hn
  have HSH := Lib.hid hsh
  rw [hn] at h4
  clear hg hfin hnew hn hsh hold hseg h3
  obtain ⟨C, hC⟩ : ∃ C, cur.toList.take off ++ u8s (suffered old new fate) ++ cur.toList.drop (off + 512) = C := ⟨_, rfl⟩
  rw [hC]
  have HC := Lib.hid hC
  clear hC
  rcases (show fate % 4 = 0 ∨ fate % 4 = 1 ∨ fate % 4 = 2 ∨ fate % 4 = 3 by omega) with q | q | q | q
  · have HE : Hid (C = cur.toList) := Lib.hid (by
      rw [← HC.out]
      have := HF.out [] 0 (by simp) (by simp [suffered, q])
      simp only [u8s_nil, List.length_nil, Nat.add_zero, List.append_nil, List.take_append_drop] at this
      exact this.symm)
    rw [q] at hand
    clear q h5 h6
    go_enter Try.func29, Try.ntmps29
    go_wp2_with fail
    refine (remainder_ok _ _).mono ?_
    rintro e w1 ⟨rfl, rfl⟩
    go_wp2
    go_end0
    exact ⟨⟨_, rfl⟩, Keeps.refl _ _, by rw [HE.out, Array.toArray_toList]; exact HG.out⟩
  · have HE : Hid (C = cur.toList.take off ++ u8s new ++ cur.toList.drop (off + (u8s new).length)) := Lib.hid (by
      rw [← HC.out]
      have := HF.out new 0 (by omega) (by simp [suffered, q, hnl, hol])
      simpa using this.symm)
    rw [q] at hand
    have hrun0 := run_copy_row Try.prog w 31 31 3 5 g off 512 512 ⟨b, o, none⟩ 512 c cur t (u8s new) Try.underlying31 hU.out HG.out (by rw [u8s_length, hnl]; rfl) (fun j v hv => by rw [Addr.add_mid]; exact HN.out j v hv) (by rw [u8s_length, hnl]; exact hf) (u8s_cell _)
    obtain ⟨w2, hrun, hk2, hh2⟩ : ∃ w2, (Builtin.copy_ _ _ _).run Try.prog w = .ok _ w2 ∧ Keeps (fun k => k = g) w w2 ∧ w2.heap[g]? = some (.cells (_ : List Value).toArray t (0, 0)) := ⟨_, hrun0, (Keeps.refl _ _).setRow _ _ (.inr rfl), setRow_heap _ _ _ _ _ _ HG.out⟩
    have HK2 := Lib.hid hk2
    have HH2 : Hid (w2.heap[g]? = some (.cells C.toArray t (0, 0))) := Lib.hid (by rw [HE.out]; exact hh2)
    clear q h5 h6 hk2 hh2 hrun0
    go_enter Try.func29, Try.ntmps29
    go_wp2_with fail
    refine (remainder_ok _ _).mono ?_
    rintro e w1 ⟨rfl, rfl⟩
    go_wp2
    go_end0
    exact ⟨⟨_, rfl⟩, HK2.out, HH2.out⟩
  · have HE : Hid (C = cur.toList.take off ++ u8s (new.take n) ++ cur.toList.drop (off + (u8s (new.take n)).length)) := Lib.hid (by
      rw [← HC.out]
      have hln : (new.take n).length = n := by rw [List.length_take]; omega
      have := HF.out (new.take n) 0 (by rw [hln]; omega) (by simp [suffered, q, HNN.out, hln])
      simpa using this.symm)
    rw [q] at hand
    have hln : (u8s (new.take n)).length = n := by rw [u8s_length, List.length_take]; omega
    have hrun0 := run_copy_row Try.prog w 31 31 3 5 g off n 512 ⟨b, o, none⟩ 512 c cur t (u8s (new.take n)) Try.underlying31 hU.out HG.out (by rw [hln]; simp [Nat.min_def]; omega) (fun j v hv => by
      rw [Addr.add_mid]
      refine HN.out j v ?_
      have : u8s (new.take n) = (u8s new).take n := by simp [u8s, List.map_take]
      rw [this, List.getElem?_take] at hv
      split at hv
      · exact hv
      · cases hv) (by rw [hln]; omega) (u8s_cell _)
    obtain ⟨w2, hrun, hk2, hh2⟩ : ∃ w2, (Builtin.copy_ _ _ _).run Try.prog w = .ok _ w2 ∧ Keeps (fun k => k = g) w w2 ∧ w2.heap[g]? = some (.cells (_ : List Value).toArray t (0, 0)) := ⟨_, hrun0, (Keeps.refl _ _).setRow _ _ (.inr rfl), setRow_heap _ _ _ _ _ _ HG.out⟩
    have HK2 := Lib.hid hk2
    have HH2 : Hid (w2.heap[g]? = some (.cells C.toArray t (0, 0))) := Lib.hid (by rw [HE.out]; exact hh2)
    have q1 : (n : Int) ≤ 512 := by omega
    clear q h5 h6 hk2 hh2 hrun0
    go_enter Try.func29, Try.ntmps29
    go_wp2_with fail
    refine (remainder_ok _ _).mono ?_
    rintro e w1 ⟨rfl, rfl⟩
    rw [HNN.out]
    go_wp2
    go_end0
    exact ⟨⟨_, rfl⟩, HK2.out, HH2.out⟩
  · have hln : (u8s (new.drop n)).length = 512 - n := by rw [u8s_length, List.length_drop, hnl]
    have HE : Hid (C = cur.toList.take (off + n) ++ u8s (new.drop n) ++ cur.toList.drop (off + n + (u8s (new.drop n)).length)) := Lib.hid (by
      rw [← HC.out]
      have := HF.out (new.drop n) n (by rw [List.length_drop]; omega) (by
        simp [suffered, q, HNN.out, hnl, show n + (512 - n) = 512 from by omega, List.drop_of_length_le (l := old) (show old.length ≤ 512 by omega)])
      exact this.symm)
    rw [q] at hand
    by_cases hn0 : n = 512
    · subst hn0
      by_cases hc0 : c = 512
      · subst hc0
        have HRUN : Hid (∀ w', Same w w' → ∃ w'' r, (Builtin.copy_ #[31, 31] 3 #[.slice (some ⟨g, off, none⟩) 0 0, .slice (some ⟨b, o, none⟩) 0 0]).run Try.prog w' = .ok r w'' ∧ Keeps (fun k => k = g) w' w'' ∧
            w''.heap[g]? = some (.cells (cur.toList.take (off + 512) ++ u8s (new.drop 512) ++ cur.toList.drop (off + 512 + (u8s (new.drop 512)).length)).toArray t (0, 0))) := Lib.hid (fun w' k => by
          have hg' := k.obj HG.out (fun e => e)
          have hn' := rangeAt_keep HN.out k (fun _ e => e)
          have hr := run_copy_row Try.prog w' 31 31 3 5 g (off + 512) 0 0 ⟨b, o, none⟩ 0 0 cur t (u8s (new.drop 512)) Try.underlying31 hU.out hg' (by rw [hln]; rfl) (fun j v hv => by
            rw [List.drop_of_length_le (by omega)] at hv; simp [u8s] at hv) (by rw [hln]; omega) (u8s_cell _)
          exact ⟨_, _, hr, (Keeps.refl _ _).setRow _ _ (.inr rfl), setRow_heap _ _ _ _ _ _ hg'⟩)
        clear q h5 h6
        go_enter Try.func29, Try.ntmps29
        go_wp2_with fail
        refine (remainder_ok _ _).mono ?_
        rintro e w1 ⟨rfl, rfl⟩
        rw [HNN.out]
        go_wp2_with fail
        refine wp_region_tail [[], [0], [], [1, 2], [], [], [4, 5], [3, 6]] [some 29, some 30, some 31, some 32, some 33, some 34, some 35, some 36]
          [.is (.pointer (some ⟨g, off, none⟩)), .is (.pointer (some ⟨g, off, none⟩)), .is (.int .i64 (512 : Nat)), .is (.slice (some ⟨g, off, none⟩) 0 0), .is (.slice (some ⟨b, o, none⟩) 512 512), .is (.int .i64 (512 : Nat)), .is (.slice (some ⟨b, o, none⟩) 0 0)]
          (fun _ => False) [] (fun _ _ => True) 7 _ _ 37 7 8 (by kernel_rfl) (by rfl) (by rfl) (by omega) (by kernel_rfl) (by kernel_rfl) (by decide) (by decide) (fun _ e => e.elim) trivial (fun _ _ _ h _ => h) ?_ ?_
        · refine ⟨?_, ?_, ?_, ?_, ?_, ?_, ?_, trivial⟩
          · intro a w' K hk hdep hfr hK
            have f := hfr 0 (by decide)
            exact plan_do (by rfl) (plan_yield (i := 0) (V := fun _ _ v => v = (.pointer (some ⟨g, off, none⟩) : Value)) (.pointer (some ⟨g, off, none⟩)) (by go_simp) rfl hK)
          · intro a w' K hk hdep hfr hK
            have e29 : a.tmps[29]?.getD undef = .pointer (some ⟨g, off, none⟩) := hdep 0 (by decide) 29 rfl
            exact plan_do (by rfl) (plan_yield (i := 1) (V := fun _ _ v => v = (.pointer (some ⟨g, off, none⟩) : Value)) (.pointer (some ⟨g, off, none⟩)) (by go_simp) rfl hK)
          · intro a w' K hk hdep hfr hK
            have f := hfr 6 (by decide)
            exact plan_do (by rfl) (plan_yield (i := 2) (V := fun _ _ v => v = (.int .i64 (512 : Nat) : Value)) (.int .i64 (512 : Nat)) (by go_simp) rfl hK)
          · intro a w' K hk hdep hfr hK
            have e30 : a.tmps[30]?.getD undef = .pointer (some ⟨g, off, none⟩) := hdep 1 (by decide) 30 rfl
            have e31 : a.tmps[31]?.getD undef = .int .i64 (512 : Nat) := hdep 2 (by decide) 31 rfl
            exact plan_do (by rfl) (plan_yield (i := 3) (V := fun _ _ v => v = (.slice (some ⟨g, off, none⟩) 0 0 : Value)) (.slice (some ⟨g, off, none⟩) 0 0) (by go_simp) rfl hK)
          · intro a w' K hk hdep hfr hK
            have f := hfr 1 (by decide)
            exact plan_do (by rfl) (plan_yield (i := 4) (V := fun _ _ v => v = (.slice (some ⟨b, o, none⟩) 512 512 : Value)) (.slice (some ⟨b, o, none⟩) 512 512) (by go_simp) rfl hK)
          · intro a w' K hk hdep hfr hK
            have f := hfr 6 (by decide)
            exact plan_do (by rfl) (plan_yield (i := 5) (V := fun _ _ v => v = (.int .i64 (512 : Nat) : Value)) (.int .i64 (512 : Nat)) (by go_simp) rfl hK)
          · intro a w' K hk hdep hfr hK
            have e33 : a.tmps[33]?.getD undef = .slice (some ⟨b, o, none⟩) 512 512 := hdep 4 (by decide) 33 rfl
            have e34 : a.tmps[34]?.getD undef = .int .i64 (512 : Nat) := hdep 5 (by decide) 34 rfl
            exact plan_do (by rfl) (plan_yield (i := 6) (V := fun _ _ v => v = (.slice (some ⟨b, o, none⟩) 0 0 : Value)) (.slice (some ⟨b, o, none⟩) 0 0) (by go_simp) rfl hK)
        intro a w2 hk hdef hsz hv hfr _
        have e32 : a.tmps[32]?.getD undef = .slice (some ⟨g, off, none⟩) 0 0 := hv 3 32 (by omega) rfl
        have e35 : a.tmps[35]?.getD undef = .slice (some ⟨b, o, none⟩) 0 0 := hv 6 35 (by omega) rfl
        obtain ⟨w3, r3, hrun, hk3, hh3⟩ := HRUN.out w2 hk
        refine wpList_copy_run (by rfl) (.tmp 32) (.tmp 35) 31 31 (by rfl) (.slice (some ⟨g, off, none⟩) 0 0) (.slice (some ⟨b, o, none⟩) 0 0) r3 w3 ((eval_tmp _ _).trans e32) ((eval_tmp _ _).trans e35) hrun ?_
        have HK3 : Hid (Keeps (fun k => k = g) w1 w3) := Lib.hid (Keeps.trans (S := fun k => k = g) (Same.any hk) hk3 (fun _ _ e => e))
        have HH3 : Hid (w3.heap[g]? = some (.cells C.toArray t (0, 0))) := Lib.hid (by rw [HE.out]; exact hh3)
        clear hk3 hh3 hrun hv hfr hk
        go_wp2
        exact bodyPost_end (results_none rfl _ _ _) rfl ⟨⟨_, rfl⟩, HK3.out, HH3.out⟩
      · have q2 : (512 : Int) ≤ (c : Int) := by omega
        have HRUN : Hid (∀ w', Same w w' → ∃ w'' r, (Builtin.copy_ #[31, 31] 3 #[.slice (some ⟨g, off, none⟩) 0 0, .slice (some ⟨b, o + 512, none⟩) 0 (c - 512)]).run Try.prog w' = .ok r w'' ∧ Keeps (fun k => k = g) w' w'' ∧
            w''.heap[g]? = some (.cells (cur.toList.take (off + 512) ++ u8s (new.drop 512) ++ cur.toList.drop (off + 512 + (u8s (new.drop 512)).length)).toArray t (0, 0))) := Lib.hid (fun w' k => by
          have hg' := k.obj HG.out (fun e => e)
          have hn' := rangeAt_keep HN.out k (fun _ e => e)
          have hr := run_copy_row Try.prog w' 31 31 3 5 g (off + 512) 0 0 ⟨b, o + 512, none⟩ 0 (c - 512) cur t (u8s (new.drop 512)) Try.underlying31 hU.out hg' (by rw [hln]; rfl) (fun j v hv => by
            rw [List.drop_of_length_le (by omega)] at hv; simp [u8s] at hv) (by rw [hln]; omega) (u8s_cell _)
          exact ⟨_, _, hr, (Keeps.refl _ _).setRow _ _ (.inr rfl), setRow_heap _ _ _ _ _ _ hg'⟩)
        clear q h5 h6
        go_enter Try.func29, Try.ntmps29
        go_wp2_with fail
        refine (remainder_ok _ _).mono ?_
        rintro e w1 ⟨rfl, rfl⟩
        rw [HNN.out]
        go_wp2_with fail
        refine wp_region_tail [[], [0], [], [1, 2], [], [], [4, 5], [3, 6]] [some 29, some 30, some 31, some 32, some 33, some 34, some 35, some 36]
          [.is (.pointer (some ⟨g, off, none⟩)), .is (.pointer (some ⟨g, off, none⟩)), .is (.int .i64 (512 : Nat)), .is (.slice (some ⟨g, off, none⟩) 0 0), .is (.slice (some ⟨b, o, none⟩) 512 c), .is (.int .i64 (512 : Nat)), .is (.slice (some ⟨b, o + 512, none⟩) 0 (c - 512))]
          (fun _ => False) [] (fun _ _ => True) 7 _ _ 37 7 8 (by kernel_rfl) (by rfl) (by rfl) (by omega) (by kernel_rfl) (by kernel_rfl) (by decide) (by decide) (fun _ e => e.elim) trivial (fun _ _ _ h _ => h) ?_ ?_
        · refine ⟨?_, ?_, ?_, ?_, ?_, ?_, ?_, trivial⟩
          · intro a w' K hk hdep hfr hK
            have f := hfr 0 (by decide)
            exact plan_do (by rfl) (plan_yield (i := 0) (V := fun _ _ v => v = (.pointer (some ⟨g, off, none⟩) : Value)) (.pointer (some ⟨g, off, none⟩)) (by go_simp) rfl hK)
          · intro a w' K hk hdep hfr hK
            have e29 : a.tmps[29]?.getD undef = .pointer (some ⟨g, off, none⟩) := hdep 0 (by decide) 29 rfl
            exact plan_do (by rfl) (plan_yield (i := 1) (V := fun _ _ v => v = (.pointer (some ⟨g, off, none⟩) : Value)) (.pointer (some ⟨g, off, none⟩)) (by go_simp) rfl hK)
          · intro a w' K hk hdep hfr hK
            have f := hfr 6 (by decide)
            exact plan_do (by rfl) (plan_yield (i := 2) (V := fun _ _ v => v = (.int .i64 (512 : Nat) : Value)) (.int .i64 (512 : Nat)) (by go_simp) rfl hK)
          · intro a w' K hk hdep hfr hK
            have e30 : a.tmps[30]?.getD undef = .pointer (some ⟨g, off, none⟩) := hdep 1 (by decide) 30 rfl
            have e31 : a.tmps[31]?.getD undef = .int .i64 (512 : Nat) := hdep 2 (by decide) 31 rfl
            exact plan_do (by rfl) (plan_yield (i := 3) (V := fun _ _ v => v = (.slice (some ⟨g, off, none⟩) 0 0 : Value)) (.slice (some ⟨g, off, none⟩) 0 0) (by go_simp) rfl hK)
          · intro a w' K hk hdep hfr hK
            have f := hfr 1 (by decide)
            exact plan_do (by rfl) (plan_yield (i := 4) (V := fun _ _ v => v = (.slice (some ⟨b, o, none⟩) 512 c : Value)) (.slice (some ⟨b, o, none⟩) 512 c) (by go_simp) rfl hK)
          · intro a w' K hk hdep hfr hK
            have f := hfr 6 (by decide)
            exact plan_do (by rfl) (plan_yield (i := 5) (V := fun _ _ v => v = (.int .i64 (512 : Nat) : Value)) (.int .i64 (512 : Nat)) (by go_simp) rfl hK)
          · intro a w' K hk hdep hfr hK
            have e33 : a.tmps[33]?.getD undef = .slice (some ⟨b, o, none⟩) 512 c := hdep 4 (by decide) 33 rfl
            have e34 : a.tmps[34]?.getD undef = .int .i64 (512 : Nat) := hdep 5 (by decide) 34 rfl
            exact plan_do (by rfl) (plan_yield (i := 6) (V := fun _ _ v => v = (.slice (some ⟨b, o + 512, none⟩) 0 (c - 512) : Value)) (.slice (some ⟨b, o + 512, none⟩) 0 (c - 512)) (by go_simp) rfl hK)
        intro a w2 hk hdef hsz hv hfr _
        have e32 : a.tmps[32]?.getD undef = .slice (some ⟨g, off, none⟩) 0 0 := hv 3 32 (by omega) rfl
        have e35 : a.tmps[35]?.getD undef = .slice (some ⟨b, o + 512, none⟩) 0 (c - 512) := hv 6 35 (by omega) rfl
        obtain ⟨w3, r3, hrun, hk3, hh3⟩ := HRUN.out w2 hk
        refine wpList_copy_run (by rfl) (.tmp 32) (.tmp 35) 31 31 (by rfl) (.slice (some ⟨g, off, none⟩) 0 0) (.slice (some ⟨b, o + 512, none⟩) 0 (c - 512)) r3 w3 ((eval_tmp _ _).trans e32) ((eval_tmp _ _).trans e35) hrun ?_
        have HK3 : Hid (Keeps (fun k => k = g) w1 w3) := Lib.hid (Keeps.trans (S := fun k => k = g) (Same.any hk) hk3 (fun _ _ e => e))
        have HH3 : Hid (w3.heap[g]? = some (.cells C.toArray t (0, 0))) := Lib.hid (by rw [HE.out]; exact hh3)
        clear hk3 hh3 hrun hv hfr hk
        go_wp2
        exact bodyPost_end (results_none rfl _ _ _) rfl ⟨⟨_, rfl⟩, HK3.out, HH3.out⟩
    · have q1 : ¬ 512 = n := fun e => hn0 e.symm
      have q2 : ¬ c = n := by omega
      have q3 : (n : Int) ≤ 512 := by omega
      have q4 : (n : Int) ≤ (c : Int) := by omega
      have HRUN : Hid (∀ w', Same w w' → ∃ w'' r, (Builtin.copy_ #[31, 31] 3 #[.slice (some ⟨g, off + n, none⟩) (512 - n) (512 - n), .slice (some ⟨b, o + n, none⟩) (512 - n) (c - n)]).run Try.prog w' = .ok r w'' ∧ Keeps (fun k => k = g) w' w'' ∧
          w''.heap[g]? = some (.cells (cur.toList.take (off + n) ++ u8s (new.drop n) ++ cur.toList.drop (off + n + (u8s (new.drop n)).length)).toArray t (0, 0))) := Lib.hid (fun w' k => by
        have hg' := k.obj HG.out (fun e => e)
        have hn' := rangeAt_keep HN.out k (fun _ e => e)
        have hr := run_copy_row Try.prog w' 31 31 3 5 g (off + n) (512 - n) (512 - n) ⟨b, o + n, none⟩ (512 - n) (c - n) cur t (u8s (new.drop n)) Try.underlying31 hU.out hg' (by rw [hln]; simp) (fun j v hv => by
          rw [Addr.add_mid, Nat.add_assoc]
          refine hn' (n + j) v ?_
          have : u8s (new.drop n) = (u8s new).drop n := by simp [u8s, List.map_drop]
          rw [this, List.getElem?_drop] at hv
          exact hv) (by rw [hln]; omega) (u8s_cell _)
        exact ⟨_, _, hr, (Keeps.refl _ _).setRow _ _ (.inr rfl), setRow_heap _ _ _ _ _ _ hg'⟩)
      clear q h5 h6
      go_enter Try.func29, Try.ntmps29
      go_wp2_with fail
      refine (remainder_ok _ _).mono ?_
      rintro e w1 ⟨rfl, rfl⟩
      rw [HNN.out]
      go_wp2_with fail
      refine wp_region_tail [[], [0], [], [1, 2], [], [], [4, 5], [3, 6]] [some 29, some 30, some 31, some 32, some 33, some 34, some 35, some 36]
        [.is (.pointer (some ⟨g, off, none⟩)), .is (.pointer (some ⟨g, off, none⟩)), .is (.int .i64 (n : Nat)), .is (.slice (some ⟨g, off + n, none⟩) (512 - n) (512 - n)), .is (.slice (some ⟨b, o, none⟩) 512 c), .is (.int .i64 (n : Nat)), .is (.slice (some ⟨b, o + n, none⟩) (512 - n) (c - n))]
        (fun _ => False) [] (fun _ _ => True) 7 _ _ 37 7 8 (by kernel_rfl) (by rfl) (by rfl) (by omega) (by kernel_rfl) (by kernel_rfl) (by decide) (by decide) (fun _ e => e.elim) trivial (fun _ _ _ h _ => h) ?_ ?_
      · refine ⟨?_, ?_, ?_, ?_, ?_, ?_, ?_, trivial⟩
        · intro a w' K hk hdep hfr hK
          have f := hfr 0 (by decide)
          exact plan_do (by rfl) (plan_yield (i := 0) (V := fun _ _ v => v = (.pointer (some ⟨g, off, none⟩) : Value)) (.pointer (some ⟨g, off, none⟩)) (by go_simp) rfl hK)
        · intro a w' K hk hdep hfr hK
          have e29 : a.tmps[29]?.getD undef = .pointer (some ⟨g, off, none⟩) := hdep 0 (by decide) 29 rfl
          exact plan_do (by rfl) (plan_yield (i := 1) (V := fun _ _ v => v = (.pointer (some ⟨g, off, none⟩) : Value)) (.pointer (some ⟨g, off, none⟩)) (by go_simp) rfl hK)
        · intro a w' K hk hdep hfr hK
          have f := hfr 6 (by decide)
          exact plan_do (by rfl) (plan_yield (i := 2) (V := fun _ _ v => v = (.int .i64 (n : Nat) : Value)) (.int .i64 (n : Nat)) (by go_simp) rfl hK)
        · intro a w' K hk hdep hfr hK
          have e30 : a.tmps[30]?.getD undef = .pointer (some ⟨g, off, none⟩) := hdep 1 (by decide) 30 rfl
          have e31 : a.tmps[31]?.getD undef = .int .i64 (n : Nat) := hdep 2 (by decide) 31 rfl
          exact plan_do (by rfl) (plan_yield (i := 3) (V := fun _ _ v => v = (.slice (some ⟨g, off + n, none⟩) (512 - n) (512 - n) : Value)) (.slice (some ⟨g, off + n, none⟩) (512 - n) (512 - n)) (by go_simp) rfl hK)
        · intro a w' K hk hdep hfr hK
          have f := hfr 1 (by decide)
          exact plan_do (by rfl) (plan_yield (i := 4) (V := fun _ _ v => v = (.slice (some ⟨b, o, none⟩) 512 c : Value)) (.slice (some ⟨b, o, none⟩) 512 c) (by go_simp) rfl hK)
        · intro a w' K hk hdep hfr hK
          have f := hfr 6 (by decide)
          exact plan_do (by rfl) (plan_yield (i := 5) (V := fun _ _ v => v = (.int .i64 (n : Nat) : Value)) (.int .i64 (n : Nat)) (by go_simp) rfl hK)
        · intro a w' K hk hdep hfr hK
          have e33 : a.tmps[33]?.getD undef = .slice (some ⟨b, o, none⟩) 512 c := hdep 4 (by decide) 33 rfl
          have e34 : a.tmps[34]?.getD undef = .int .i64 (n : Nat) := hdep 5 (by decide) 34 rfl
          exact plan_do (by rfl) (plan_yield (i := 6) (V := fun _ _ v => v = (.slice (some ⟨b, o + n, none⟩) (512 - n) (c - n) : Value)) (.slice (some ⟨b, o + n, none⟩) (512 - n) (c - n)) (by go_simp) rfl hK)
      intro a w2 hk hdef hsz hv hfr _
      have e32 : a.tmps[32]?.getD undef = .slice (some ⟨g, off + n, none⟩) (512 - n) (512 - n) := hv 3 32 (by omega) rfl
      have e35 : a.tmps[35]?.getD undef = .slice (some ⟨b, o + n, none⟩) (512 - n) (c - n) := hv 6 35 (by omega) rfl
      obtain ⟨w3, r3, hrun, hk3, hh3⟩ := HRUN.out w2 hk
      refine wpList_copy_run (by rfl) (.tmp 32) (.tmp 35) 31 31 (by rfl) (.slice (some ⟨g, off + n, none⟩) (512 - n) (512 - n)) (.slice (some ⟨b, o + n, none⟩) (512 - n) (c - n)) r3 w3 ((eval_tmp _ _).trans e32) ((eval_tmp _ _).trans e35) hrun ?_
      have HK3 : Hid (Keeps (fun k => k = g) w1 w3) := Lib.hid (Keeps.trans (S := fun k => k = g) (Same.any hk) hk3 (fun _ _ e => e))
      have HH3 : Hid (w3.heap[g]? = some (.cells C.toArray t (0, 0))) := Lib.hid (by rw [HE.out]; exact hh3)
      clear hk3 hh3 hrun hv hfr hk
      go_wp2
      exact bodyPost_end (results_none rfl _ _ _) rfl ⟨⟨_, rfl⟩, HK3.out, HH3.out⟩
end Go.Proofs.Ytoimhniijeafaaa
