/- The document's own eye: a struct of a slice and a number; what its calls do. -/
import Derived.Test.YtdeajjppmgfemaaEye4
import Derived.Test.YtdeajjppmgfemaaRef02
import Derived.Test.YtdeajjppmgfemaaRefNum
namespace Go.Proofs.Ytdeajjppmgfemaa
open Go.RowKit
set_option linter.unusedVariables false

/-- Block B is a struct of a slice that reads as the bytes bs, wherever they lie, and of a number up to which they were read. -/
structure REye (w : World) (B : Nat) (ao : Option Addr) (cap : Nat) (bs : List UInt8) (i : Nat) : Prop where
  obj : w.heap[B]? = some (.cells #[.slice ao bs.length cap, .int .i64 i] 69 (0, 0))
  bytes : Bytes w (.slice ao bs.length cap) bs
  le : i ≤ bs.length
  cap : bs.length ≤ cap
  far : ∀ a, ao = some a → bs ≠ [] → a.block ≠ B
theorem REye.lt {w : World} {B : Nat} {ao : Option Addr} {cap : Nat} {bs : List UInt8} {i : Nat} (h : REye w B ao cap bs i) : B < w.heap.size := lt_of_block h.obj
theorem REye.keeps {w w' : World} {B : Nat} {ao : Option Addr} {cap : Nat} {bs : List UInt8} {i : Nat} (h : REye w B ao cap bs i) {S : Nat → Prop} (k : Keeps S w w') (hB : ¬ S B) (hr : ∀ a, ao = some a → bs ≠ [] → ¬ S a.block) : REye w' B ao cap bs i := by
  refine ⟨k.obj h.obj hB, ?_, h.le, h.cap, h.far⟩
  by_cases hn : bs = []
  · subst hn; exact Bytes.nil _ _ _
  · exact h.bytes.keeps k (fun a n c e => by simp only [Value.slice.injEq] at e; exact hr a e.1 hn)
theorem REye.same {w w' : World} {B : Nat} {ao : Option Addr} {cap : Nat} {bs : List UInt8} {i : Nat} (h : REye w B ao cap bs i) (k : Same w w') : REye w' B ao cap bs i := h.keeps k (fun e => e) (fun _ _ _ e => e)
theorem REye.set {w : World} {B : Nat} {ao : Option Addr} {cap : Nat} {bs : List UInt8} {i j : Nat} (h : REye w B ao cap bs i) (hj : j ≤ bs.length) : REye (w.setCell ⟨B, 1, none⟩ (.int .i64 j)) B ao cap bs j := by
  refine ⟨two_set1 h.obj, ?_, hj, h.cap, h.far⟩
  by_cases hn : bs = []
  · subst hn; exact Bytes.nil _ _ _
  · exact h.bytes.keeps ((Keeps.refl (fun k => k = B) w).setCell _ _ (.inr rfl)) (fun a n c e => by simp only [Value.slice.injEq] at e; exact h.far a e.1 hn)
set_option maxRecDepth 100000 in
set_option maxHeartbeats 800000 in
theorem reye_raw_neg (p : Value) (n : Int) (w : World) (hn : n < 0) :
    Calls Try.prog 30 #[p, .int .i64 n] w fun e w' => ∃ g, e = .returned (.tuple #[.slice (some ⟨g, 0, none⟩) 0 0, .int .i64 1]) ∧ Same w w' := by
  go_enter Try.func30, Try.ntmps30
  go_wp2
  go_ret2
  exact ⟨_, rfl, (Keeps.refl _ _).alloc _⟩

set_option maxRecDepth 100000 in
set_option maxHeartbeats 800000 in
theorem reye_raw_short (B : Nat) (ao : Option Addr) (cap : Nat) (bs : List UInt8) (i : Nat) (n : Int) (w : World) (h : REye w B ao cap bs i) (hl : bs.length ≤ 140737488351232) (hn : ((bs.length : Int) - i) < n) :
    Calls Try.prog 30 #[.pointer (some ⟨B, 0, none⟩), .int .i64 n] w fun e w' => ∃ g, e = .returned (.tuple #[.slice (some ⟨g, 0, none⟩) 0 0, .int .i64 20]) ∧ Same w w' := by
  obtain ⟨c0, c1, _, _⟩ := cell_of_two h.obj
  have h0 := h.le
  have h1 : ¬ n < 0 := by omega
  have h2 : (i : Int) ≤ (bs.length : Int) := by omega
  have h3 : (bs.length : Int) ≤ 140737488351232 := by omega
  clear h
  go_enter Try.func30, Try.ntmps30
  go_wp2
  go_quiet (fail)
  go_wp2
  go_ret2
  exact ⟨_, rfl, ((Keeps.refl _ _).alloc _).drewN _⟩

set_option maxRecDepth 100000 in
set_option maxHeartbeats 1600000 in
theorem reye_raw_ok (B : Nat) (ao : Option Addr) (cap : Nat) (bs : List UInt8) (i n : Nat) (w : World) (h : REye w B ao cap bs i) (hl : bs.length ≤ 140737488351232) (hn : i + n ≤ bs.length) :
    Calls Try.prog 30 #[.pointer (some ⟨B, 0, none⟩), .int .i64 n] w fun e w' => ∃ g c, e = .returned (.tuple #[.slice (some ⟨g, 0, none⟩) n c, .int .i64 0]) ∧ w'.ownsRow w.heap.size 5 1 (.slice (some ⟨g, 0, none⟩) n c) n (u8s ((bs.drop i).take n)) ∧
      REye w' B ao cap bs (i + n) ∧ Keeps (fun k => k = B) w w' := by
  obtain ⟨i0, hi0, hz0, hz1, hz2⟩ := info_parts Try.info5
  obtain ⟨c0, c1, f0, f1⟩ := cell_of_two h.obj
  have h1 : ¬ (n : Int) < 0 := by omega
  have h2 : (n : Int) ≤ (bs.length : Int) - (i : Int) := by omega
  have h3 : (bs.length : Int) ≤ 140737488351232 := by omega
  have h4 : (i : Int) ≤ (bs.length : Int) := by omega
  have h5 : ((i : Int) + (n : Int)) ≤ 140737488351232 := by omega
  have H := Lib.hid h
  have hB := h.lt
  clear h
  go_enter Try.func30, Try.ntmps30
  go_wp2
  go_quiet (fail)
  go_wp2
  have hex : REye ((w.drewN nq).setCell ⟨B, 1, none⟩ (.int .i64 ((i : Int) + (n : Int)))) B ao cap bs (i + n) := by
    have := (H.out.same ((Keeps.refl _ w).drewN nq)).set (j := i + n) hn
    simpa using this
  have hkx : Keeps (fun k => k = B) w ((w.drewN nq).setCell ⟨B, 1, none⟩ (.int .i64 ((i : Int) + (n : Int)))) := ((Keeps.refl _ w).drewN nq).setCell _ _ (.inr rfl)
  generalize (w.drewN nq).setCell ⟨B, 1, none⟩ (.int .i64 ((i : Int) + (n : Int))) = wx at *
  obtain ⟨d0, d1, g0, g1⟩ := cell_of_two hex.obj
  simp only [Int.natCast_add] at d1
  have s1 : (0 : Int) ≤ (i : Int) := by omega
  have s2 : (i : Int) ≤ (i : Int) + (n : Int) := by omega
  have s3 : (i : Int) + (n : Int) ≤ (cap : Int) := by have := H.out.cap; omega
  have s4 : IntKind.i64.wrap (i : Int) = (i : Int) := IntWalk.i64_in _ (by omega)
  have s6 : ((i : Int) + (n : Int)).toNat = i + n := by omega
  have s7 : i + n - i = n := by omega
  have hcut := hex.bytes.cut i n (cap - i) hn hex.cap
  obtain ⟨ad, had⟩ : ∃ ad, (if cap = i then ao else Option.map (fun x => x.add i) ao) = ad := ⟨_, rfl⟩
  rw [had] at hcut
  have HC : Hid (∀ o, Bytes (wx.alloc o) (.slice ad n (cap - i)) ((bs.drop i).take n)) := Lib.hid fun o => hcut.same ((Keeps.refl _ _).alloc o)
  have HE : Hid (∀ (o : Obj), (wx.alloc (.cells #[] 5)).ownsRow wx.heap.size 5 1 (.slice (some ⟨wx.heap.size, 0, none⟩) ([] : List UInt8).length 0) ([] : List UInt8).length (u8s [])) := Lib.hid fun o => by
    have := World.ownsRow_made (base := wx.heap.size) (e := 5) (size := 1) wx #[] 0 (Nat.le_refl _) (by unfold maxLen; omega) (by simp)
    simpa [u8s] using this
  have hlen : ((bs.drop i).take n).length = n := by simp; omega
  have HL := Lib.hid hlen
  have HX := Lib.hid hex
  have HKX := Lib.hid hkx
  have hBx : B < wx.heap.size := hex.lt
  generalize hpp : (bs.drop i).take n = part at *
  have HPP := Lib.hid hpp
  clear hcut hlen hex hkx c0 c1 f0 f1 hpp
  go_region_held3 (fun w' => w'.cell? ⟨B, 0, none⟩ = some (.slice ao bs.length cap) ∧ w'.cell? ⟨B, 1, none⟩ = some (.int .i64 ((i : Int) + (n : Int))))
    (first
      | go_keep
      | exact ⟨(World.cell?_alloc_past _ _ _ hBx).trans d0, (World.cell?_alloc_past _ _ _ hBx).trans d1⟩
      | exact ⟨((hg.cell_far ⟨B, 0, none⟩ (by simp; omega) (by simp; omega)).trans ((World.cell?_alloc_past _ _ _ hBx).trans d0)), ((hg.cell_far ⟨B, 1, none⟩ (by simp; omega) (by simp; omega)).trans ((World.cell?_alloc_past _ _ _ hBx).trans d1))⟩)
    ((refine step_append_bytes (by rfl) _ _ 29 5 i0 (by rfl) Try.underlying29 hi0 hz0 hz1 hz2 wx.heap.size wx.heap.size 0 [] part (.slice ad n (cap - i)) (by rfl) (by rfl) (HE.out default).drew ((HC.out _).same ((Keeps.refl _ _).drew)) (by rw [HL.out]; simp; omega) (by simp) ?_; intro gg cc w2 ho hg hat))
  have HO := Lib.hid ho
  have HG := Lib.hid hg
  clear ho hg hat
  go_wp2
  go_ret2
  have hs2 : Same wx w2 := (((Keeps.refl _ _).alloc _).drew).grown HG.out (fun k e hk => by simp only [Option.some.injEq] at e; omega)
  have hz := HKX.out.size
  refine ⟨gg, cc, by simp [HL.out], ?_, HX.out.same hs2, HKX.out.trans hs2 (fun _ _ e => e.elim)⟩
  rw [HPP.out]
  have := own_base HO.out hz
  simpa [HL.out] using this

set_option maxRecDepth 100000 in
set_option maxHeartbeats 800000 in
theorem reye_text_short1 (B : Nat) (ao : Option Addr) (cap : Nat) (bs : List UInt8) (i : Nat) (w : World) (h : REye w B ao cap bs i) (hl : bs.length ≤ 140737488351232) (hn : bs.length < i + 2) :
    Calls Try.prog 29 #[.pointer (some ⟨B, 0, none⟩)] w fun e w' => ∃ g, e = .returned (.tuple #[.slice (some ⟨g, 0, none⟩) 0 0, .int .i64 20]) ∧ Same w w' := by
  obtain ⟨c0, c1, _, _⟩ := cell_of_two h.obj
  have h0 := h.le
  have h2 : (i : Int) ≤ (bs.length : Int) := by omega
  have h3 : (bs.length : Int) ≤ 140737488351232 := by omega
  have h4 : (bs.length : Int) - (i : Int) < 2 := by omega
  clear h
  go_enter Try.func29, Try.ntmps29
  go_wp2
  go_quiet (fail)
  go_wp2
  go_ret2
  exact ⟨_, rfl, ((Keeps.refl _ _).alloc _).drewN _⟩

end Go.Proofs.Ytdeajjppmgfemaa
