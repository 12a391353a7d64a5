/- Calls on a disk, told with the set of its blocks. -/
import Derived.Test.YtoimhniijeafaaaDk9
import Derived.Test.YtoimhniijeafaaaPlan2
import Derived.Deep.OwnRows
namespace Go.Proofs.Ytoimhniijeafaaa
open Go.RowKit
set_option linter.unusedVariables false

theorem run_reads {w : World} {v : Value} {b : List UInt8} (h : Reads w v b) : (convert 31 9 v).run Try.prog w = .ok (.string ⟨b.toArray⟩) w := by
  obtain ⟨ao, c, rfl, h1, h2, _⟩ := h
  exact run_string' h1 h2 _ _ _ Try.underlying31 Try.underlying5 Try.underlying9
abbrev strV (b : List UInt8) : Value := .string ⟨b.toArray⟩
section
variable {P : Program} {Q : Exit → Act → World → Prop}
/-- An operation that makes a block, and its value. -/
theorem plan_grow {V : Nat → World → Value → Prop} {a : Act} {w w2 : World} {K : Act → World → Prop} {i : Nat} {o : Oper} (r : Value) (hr : (execOp a.eval o).run P w = .ok (.value r) w2) (hs : Same w w2) (hv : V i w2 r)
    (hK : ∀ v w', Same w w' → V i w' v → K (a.put o.dst v) w') : Oper.wp P o a w K Q := by
  unfold Oper.wp
  rw [hr]
  exact hK r w2 hs hv
end
theorem run_noughts (w : World) : ∃ w2, (Instr.makeSlice 31 (.int .i64 512) (.int .i64 512)).run Try.prog w = .ok (.slice (some ⟨w.heap.size, 0, none⟩) 512 512) w2 ∧ Same w w2 ∧ Reads w2 (.slice (some ⟨w.heap.size, 0, none⟩) 512 512) noughts := by
  have h := run_make_row' (P := Try.prog) 31 5 (.int .u8 0) 1 Try.underlying31 Try.infoB8 rfl .i64 .i64 512 (by decide) (by decide) w
  refine ⟨_, h, (Keeps.refl _ _).alloc _, ?_⟩
  refine Reads.of_own (base := 0) (e := 5) (n := 512) ⟨by simp [u8s_length, noughts_length], .inr ⟨w.heap.size, 512, madeCells #[.int .u8 0] 512, rfl, Nat.zero_le _, heap_alloc_new w _, Nat.le_refl _, by decide, by simp [madeCells], ?_⟩⟩ noughts_length
  rw [show (madeCells #[Value.int .u8 0] 512).toList = u8s noughts from made_u8 512]
  exact List.take_of_length_le (by simp [u8s_length, noughts_length])
theorem own_range {w : World} {base : Nat} {e : TypeId} {n g cap : Nat} {bs : List UInt8} (h : w.ownsRow base e 1 (.slice (some ⟨g, 0, none⟩) n cap) n (u8s bs)) : w.rangeAt g 0 (u8s bs) := by
  intro q u hu
  have := h.cells rfl q u hu
  have hadd : (⟨g, 0, none⟩ : Addr).add q = ⟨g, 0 + q, none⟩ := by unfold Addr.add; split <;> simp_all
  rw [hadd] at this
  exact this

/-- A disk whose blocks are F. -/
def Dk (F : Nat → Prop) (w : World) (D : Nat) (s : DSt) : Prop := ∃ lv ov, DiskAt w D lv ov s ∧ F = Foot D lv ov
def Grow (F F' : Nat → Prop) (w : World) : Prop := ∀ k, F' k → F k ∨ w.heap.size ≤ k
theorem Dk.keep {S F : Nat → Prop} {w w' : World} {D : Nat} {s : DSt} (h : Dk F w D s) (k : Keeps S w w') (hs : ∀ k, F k → ¬ S k) : Dk F w' D s := by
  obtain ⟨lv, ov, h, rfl⟩ := h
  exact ⟨lv, ov, h.keep k hs, rfl⟩
theorem Dk.same {F : Nat → Prop} {w w' : World} {D : Nat} {s : DSt} (h : Dk F w D s) (k : Same w w') : Dk F w' D s := h.keep k (fun _ _ e => e)
theorem Dk.lt {F : Nat → Prop} {w : World} {D : Nat} {s : DSt} (h : Dk F w D s) : ∀ k, F k → k < w.heap.size := by
  obtain ⟨lv, ov, h, rfl⟩ := h
  exact h.foot_lt

theorem dk_new (n : Int) (w : World) (h1 : 1 ≤ n) (h2 : n ≤ 4096) :
    Calls Try.prog 11 #[.int .i64 n] w fun e w' => ∃ D F, e = .returned (.tuple #[.pointer (some ⟨D, 0, none⟩), .int .i64 0]) ∧ Dk F w' D (DSt.new n.toNat) ∧ Same w w' ∧ ∀ k, F k → w.heap.size ≤ k := by
  obtain ⟨m, rfl⟩ : ∃ m : Nat, n = (m : Int) := ⟨n.toNat, by omega⟩
  exact (new_ok m w (by omega) (by omega)).mono fun e w' ⟨D, lv, ov, he, hd, hs, hf⟩ => ⟨D, _, he, ⟨lv, ov, hd, rfl⟩, hs, hf⟩

theorem dk_write (w : World) (F : Nat → Prop) (D : Nat) (s : DSt) (i : Int) (g c : Nat) (bs : List UInt8) (h : Dk F w D s) (hx : w.rangeAt g 0 (u8s bs)) (hl : bs.length = 512) (hfar : ¬ F g) (hO : s.O.length ≤ 100000) :
    Calls Try.prog 21 #[.pointer (some ⟨D, 0, none⟩), .int .i64 i, .slice (some ⟨g, 0, none⟩) 512 c] w fun e w' => ∃ F', e = .returned (.int .i64 (s.wcode i)) ∧ Dk F' w' D (s.wrote i bs) ∧ Keeps F w w' ∧ Grow F F' w := by
  obtain ⟨lv, ov, h, rfl⟩ := h
  by_cases hin : s.down = false ∧ 0 ≤ i ∧ i < (s.L.length : Int)
  · obtain ⟨hd, h0, h1⟩ := hin
    obtain ⟨m, rfl⟩ : ∃ m : Nat, i = (m : Int) := ⟨i.toNat, by omega⟩
    refine (write_in w D lv ov s m g 0 c bs h hd (by omega) hx hl hfar hO).mono fun e w' ⟨ov', he, hd', hk⟩ => ⟨Foot D lv ov', ?_, ⟨lv, ov', ?_, rfl⟩, hk.keep, hk.new⟩
    · have : s.wcode (m : Int) = if s.power = true then 0 else 3 := by
        unfold DSt.wcode
        rw [if_neg (by simp [hd]), if_pos ⟨h0, h1⟩]
      rw [he, this]
    · have : s.wrote (m : Int) bs = DSt.spent { s with O := s.O ++ [(m, bs)] } := by
        unfold DSt.wrote
        rw [if_neg (by simp [hd]), if_pos ⟨h0, h1⟩]
        rfl
      rw [this]
      exact hd'
  · refine (write_out w D lv ov s i _ h hin).mono fun e w' ⟨he, hs⟩ => ⟨Foot D lv ov, he, ⟨lv, ov, ?_, rfl⟩, by rw [hs]; exact Keeps.refl _ _, fun k hk => .inl hk⟩
    have : s.wrote i bs = s := by
      unfold DSt.wrote
      split
      · rfl
      · next hd => rw [if_neg (fun q => hin ⟨by simpa using hd, q⟩)]
    rw [this, hs]
    exact h

theorem dk_flush (w : World) (F : Nat → Prop) (D : Nat) (s : DSt) (h : Dk F w D s) (hO : s.O.length ≤ 100000) :
    Calls Try.prog 14 #[.pointer (some ⟨D, 0, none⟩)] w fun e w' => ∃ F', e = .returned (.int .i64 s.fcode) ∧ Dk F' w' D s.flushed ∧ Keeps F w w' ∧ Grow F F' w := by
  obtain ⟨lv, ov, h, rfl⟩ := h
  by_cases hin : s.down = false ∧ s.power = true
  · exact (flush_yes w D lv ov s h hin.1 hin.2 hO).mono fun e w' ⟨he, hd, hk⟩ => ⟨_, he, ⟨_, _, hd, rfl⟩, hk.keep, hk.new⟩
  · exact (flush_no w D lv ov s h (by cases h1 : s.down <;> cases h2 : s.power <;> simp_all)).mono fun e w' ⟨he, hd, hk⟩ => ⟨_, he, ⟨_, _, hd, rfl⟩, hk.keep, hk.new⟩

def DSt.rcode (s : DSt) (i : Int) : Int := if s.down = true then 3 else if 0 ≤ i ∧ i < (s.L.length : Int) then 0 else 2
def DSt.seen (s : DSt) (i : Int) : List UInt8 := if s.down = false ∧ 0 ≤ i ∧ i < (s.L.length : Int) then seenAt s.L s.O i.toNat else []
theorem DiskAt.seen_len {w : World} {D : Nat} {lv ov : Value} {s : DSt} (h : DiskAt w D lv ov s) {m : Nat} (hm : m < s.L.length) : (seenAt s.L s.O m).length = 512 := seen_length hm h.sec (fun o ho => (h.wr o ho).1)

theorem dk_read (w : World) (F : Nat → Prop) (D : Nat) (s : DSt) (i : Int) (h : Dk F w D s) (hO : s.O.length ≤ 100000) :
    Calls Try.prog 24 #[.pointer (some ⟨D, 0, none⟩), .int .i64 i] w fun e w' => ∃ v, e = .returned (.tuple #[v, .int .i64 (s.rcode i)]) ∧ w'.ownsRow w.heap.size 5 1 v (s.seen i).length (u8s (s.seen i)) ∧ Same w w' := by
  obtain ⟨lv, ov, h, rfl⟩ := h
  by_cases hin : s.down = false ∧ 0 ≤ i ∧ i < (s.L.length : Int)
  · have e1 : s.rcode i = 0 := by unfold DSt.rcode; rw [if_neg (by simp [hin.1]), if_pos hin.2]
    have e2 : s.seen i = seenAt s.L s.O i.toNat := by unfold DSt.seen; rw [if_pos hin]
    rw [e1, e2]
    obtain ⟨hd, h0, h1⟩ := hin
    obtain ⟨m, rfl⟩ : ∃ m : Nat, i = (m : Int) := ⟨i.toNat, by omega⟩
    rw [Int.toNat_natCast, h.seen_len (by omega)]
    exact read_in w D lv ov s m h hd (by omega) hO
  · have e1 : s.rcode i = s.wcode i := by
      unfold DSt.rcode DSt.wcode
      split
      · rfl
      · next hd => rw [if_neg (fun q => hin ⟨by simpa using hd, q⟩), if_neg (fun q => hin ⟨by simpa using hd, q⟩)]
    have e2 : s.seen i = [] := by unfold DSt.seen; rw [if_neg hin]
    rw [e1, e2]
    exact (read_out w D lv ov s i h hin).mono fun e w' ⟨he, hs⟩ => ⟨_, he, World.ownsRow_nil _ _ _ _, hs⟩

theorem dk_crash (w : World) (F : Nat → Prop) (D : Nat) (s : DSt) (fo : Option Addr) (n fc : Nat) (fates : List Int) (h : Dk F w D s) (hp : 0 < s.L.length) (hO : s.O.length ≤ 100000) (hn : n = fates.length) (hf : Ints w (.slice fo n fc) fates) :
    Calls Try.prog 18 #[.pointer (some ⟨D, 0, none⟩), .slice fo n fc] w fun e w' => ∃ D2 F2, e = .returned (.pointer (some ⟨D2, 0, none⟩)) ∧ Dk F2 w' D2 (s.crashed fates) ∧ Same w w' ∧ ∀ k, F2 k → w.heap.size ≤ k := by
  subst hn
  obtain ⟨lv, ov, h, rfl⟩ := h
  exact (crash_ok w D lv ov s fo fc fates h hp hO hf).mono fun e w' ⟨D2, lv2, he, hd, hs, hf⟩ => ⟨D2, _, he, ⟨_, _, hd, rfl⟩, hs, hf⟩

theorem dk_sectors (w : World) (F : Nat → Prop) (D : Nat) (s : DSt) (h : Dk F w D s) :
    Calls Try.prog 25 #[.pointer (some ⟨D, 0, none⟩)] w fun e w' => e = .returned (.int .i64 (s.L.length : Nat)) ∧ w' = w := by
  obtain ⟨lv, ov, h, rfl⟩ := h
  exact sectors_ok w D lv ov s h

theorem dk_limit (w : World) (F : Nat → Prop) (D : Nat) (s : DSt) (c : Int) (h : Dk F w D s) (hc : c ≤ 9223372036854775807) :
    Calls Try.prog 16 #[.pointer (some ⟨D, 0, none⟩), .int .i64 c] w fun e w' => (∃ v, e = .returned v) ∧ Dk F w' D (s.limit c) ∧ Keeps F w w' := by
  obtain ⟨lv, ov, h, rfl⟩ := h
  exact (limit_ok w D lv ov s c hc h).mono fun e w' ⟨he, hd, hk⟩ => ⟨he, ⟨_, _, hd, rfl⟩, hk.keep⟩

end Go.Proofs.Ytoimhniijeafaaa
