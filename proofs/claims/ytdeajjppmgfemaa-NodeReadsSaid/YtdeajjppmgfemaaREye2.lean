/- What the document's own eye does with a text. -/
import Derived.Test.YtdeajjppmgfemaaREye1
namespace Go.Proofs.Ytdeajjppmgfemaa
open Go.RowKit
set_option linter.unusedVariables false

theorem beVal_two (bs : List UInt8) (i : Nat) (h : i + 2 ≤ bs.length) : beVal ((bs.drop i).take 2) < 65536 := by
  have h1 := beVal_lt ((bs.drop i).take 2)
  rw [show ((bs.drop i).take 2).length = 2 from by simp; omega] at h1
  exact h1

set_option maxRecDepth 100000 in
set_option maxHeartbeats 1600000 in
theorem reye_text_short2 (B : Nat) (ao : Option Addr) (cap : Nat) (bs : List UInt8) (i m : Nat) (w : World) (h : REye w B ao cap bs i) (hl : bs.length ≤ 140737488351232) (hn : i + 2 ≤ bs.length) (hbm : beVal ((bs.drop i).take 2) = m) (hm : bs.length < i + 2 + m) :
    Calls Try.prog 29 #[.pointer (some ⟨B, 0, none⟩)] w fun e w' => ∃ g, e = .returned (.tuple #[.slice (some ⟨g, 0, none⟩) 0 0, .int .i64 20]) ∧ Same w w' := by
  obtain ⟨c0, c1, f0, f1⟩ := cell_of_two h.obj
  have hm0 : m < 65536 := by rw [← hbm]; exact beVal_two bs i hn
  have h2 : ¬ ((bs.length : Int) - (i : Int) < 2) := by omega
  have h3 : (bs.length : Int) ≤ 140737488351232 := by omega
  have h4 : (i : Int) ≤ (bs.length : Int) := by omega
  have H := Lib.hid h
  clear h
  go_enter Try.func29, Try.ntmps29
  go_wp2
  go_quiet (fail)
  go_wp2
  have h5 : (i : Int) + 2 ≤ 140737488351232 := by omega
  have s1 : (0 : Int) ≤ (i : Int) := by omega
  have s2 : (i : Int) ≤ (i : Int) + 2 := by omega
  have s3 : (i : Int) + 2 ≤ (cap : Int) := by have := H.out.cap; omega
  have s4 : IntKind.i64.wrap ((i : Int) + 2) = (i : Int) + 2 := IntWalk.i64_in _ (by omega)
  have s6 : ((i : Int) + 2).toNat = i + 2 := by omega
  have s7 : i + 2 - i = 2 := by omega
  have s8 : (0 : Int) ≤ (i : Int) + 2 := by omega
  have s9 : (m : Int) < 65536 := by omega
  have s12 : IntKind.i64.wrap (m : Int) = (m : Int) := IntWalk.i64_in _ (by omega)
  have hcut := H.out.bytes.cut i 2 (cap - i) hn H.out.cap
  obtain ⟨ad, had⟩ : ∃ ad, (if cap = i then ao else Option.map (fun x => x.add i) ao) = ad := ⟨_, rfl⟩
  rw [had] at hcut
  have hlen : ((bs.drop i).take 2).length = 2 := by simp; omega
  have HC := Lib.hid hcut
  have HL := Lib.hid hlen
  have HBM := Lib.hid hbm
  clear hcut hlen hbm hm0
  go_region_held3 (fun w' => w'.cell? ⟨B, 0, none⟩ = some (.slice ao bs.length cap) ∧ w'.cell? ⟨B, 1, none⟩ = some (.int .i64 i))
    (go_keep)
    (first
      | ((with_reducible refine (number_any ad 2 (cap - i) ((bs.drop i).take 2) _ (HC.out.same ((Keeps.refl _ _).drewN _)) HL.out (by omega)).mono ?_); rintro e w2 ⟨rfl, rfl⟩; rw [HBM.out]))
  go_wp2
  obtain ⟨p, hp⟩ : ∃ p : Nat, (bs.length : Int) - (i : Int) = (p : Int) := Int.eq_ofNat_of_zero_le (by omega)
  obtain ⟨q, hq⟩ : ∃ q : Nat, (p : Int) - 2 = (q : Int) := Int.eq_ofNat_of_zero_le (by omega)
  have hp1 : (p : Int) ≤ 140737488351232 := by omega
  have hq1 : (q : Int) ≤ 140737488351232 := by omega
  have s10 : q < m := by omega
  clear s1 s2 s3 s4 s6 s7 s8 s12 had h5 h2 h4 hm hn
  go_quiet (fail)
  go_wp2
  go_ret2
  exact ⟨_, rfl, ((Keeps.refl _ _).alloc _).drewN _⟩

set_option maxRecDepth 100000 in
set_option maxHeartbeats 1600000 in
theorem reye_text_ok (B : Nat) (ao : Option Addr) (cap : Nat) (bs : List UInt8) (i m : Nat) (w : World) (h : REye w B ao cap bs i) (hl : bs.length ≤ 140737488351232) (hn2 : i + 2 + m ≤ bs.length) (hbm : beVal ((bs.drop i).take 2) = m) :
    Calls Try.prog 29 #[.pointer (some ⟨B, 0, none⟩)] w fun e w' => ∃ g c, e = .returned (.tuple #[.slice (some ⟨g, 0, none⟩) m c, .int .i64 0]) ∧ w'.ownsRow w.heap.size 5 1 (.slice (some ⟨g, 0, none⟩) m c) m (u8s ((bs.drop (i + 2)).take m)) ∧
      REye w' B ao cap bs (i + 2 + m) ∧ Keeps (fun k => k = B) w w' := by
  have hn : i + 2 ≤ bs.length := by omega
  obtain ⟨c0, c1, f0, f1⟩ := cell_of_two h.obj
  have hm0 : m < 65536 := by rw [← hbm]; exact beVal_two bs i hn
  have h2 : ¬ ((bs.length : Int) - (i : Int) < 2) := by omega
  have h3 : (bs.length : Int) ≤ 140737488351232 := by omega
  have h4 : (i : Int) ≤ (bs.length : Int) := by omega
  have H := Lib.hid h
  clear h
  go_enter Try.func29, Try.ntmps29
  go_wp2
  go_quiet (fail)
  go_wp2
  have h5 : (i : Int) + 2 ≤ 140737488351232 := by omega
  have s1 : (0 : Int) ≤ (i : Int) := by omega
  have s2 : (i : Int) ≤ (i : Int) + 2 := by omega
  have s3 : (i : Int) + 2 ≤ (cap : Int) := by have := H.out.cap; omega
  have s4 : IntKind.i64.wrap ((i : Int) + 2) = (i : Int) + 2 := IntWalk.i64_in _ (by omega)
  have s6 : ((i : Int) + 2).toNat = i + 2 := by omega
  have s7 : i + 2 - i = 2 := by omega
  have s8 : (0 : Int) ≤ (i : Int) + 2 := by omega
  have s9 : (m : Int) < 65536 := by omega
  have s12 : IntKind.i64.wrap (m : Int) = (m : Int) := IntWalk.i64_in _ (by omega)
  have hcut := H.out.bytes.cut i 2 (cap - i) hn H.out.cap
  obtain ⟨ad, had⟩ : ∃ ad, (if cap = i then ao else Option.map (fun x => x.add i) ao) = ad := ⟨_, rfl⟩
  rw [had] at hcut
  have hlen : ((bs.drop i).take 2).length = 2 := by simp; omega
  have HC := Lib.hid hcut
  have HL := Lib.hid hlen
  have HBM := Lib.hid hbm
  clear hcut hlen hbm hm0
  go_region_held3 (fun w' => w'.cell? ⟨B, 0, none⟩ = some (.slice ao bs.length cap) ∧ w'.cell? ⟨B, 1, none⟩ = some (.int .i64 i))
    (go_keep)
    (first
      | ((with_reducible refine (number_any ad 2 (cap - i) ((bs.drop i).take 2) _ (HC.out.same ((Keeps.refl _ _).drewN _)) HL.out (by omega)).mono ?_); rintro e w2 ⟨rfl, rfl⟩; rw [HBM.out]))
  go_wp2
  obtain ⟨p, hp⟩ : ∃ p : Nat, (bs.length : Int) - (i : Int) = (p : Int) := Int.eq_ofNat_of_zero_le (by omega)
  obtain ⟨q, hq⟩ : ∃ q : Nat, (p : Int) - 2 = (q : Int) := Int.eq_ofNat_of_zero_le (by omega)
  have hp1 : (p : Int) ≤ 140737488351232 := by omega
  have hq1 : (q : Int) ≤ 140737488351232 := by omega
  have s10 : ¬ q < m := by omega
  clear s1 s2 s3 s4 s6 s7 s8 s12 had h2 h4
  go_quiet (fail)
  have s11 : (i : Int) + 2 ≤ 140737488351232 := by omega
  go_wp2_with fail
  have hx : ∀ k, REye ((w.drewN k).setCell ⟨B, 1, none⟩ (.int .i64 ((i : Int) + 2))) B ao cap bs (i + 2) := fun k => by
    have := (H.out.same ((Keeps.refl _ w).drewN k)).set (j := i + 2) hn
    simpa using this
  ((with_reducible refine (reye_raw_ok B ao cap bs (i + 2) m _ (hx _) hl hn2).mono ?_); rintro e w3 ⟨g, c, rfl, ho, he, hk⟩)
  have HO := Lib.hid ho
  have HE := Lib.hid he
  have HK := Lib.hid hk
  clear ho he hk hx
  go_wp2
  go_ret2
  have hz0 : ∀ k, w.heap.size ≤ ((w.drewN k).setCell ⟨B, 1, none⟩ (.int .i64 ((i : Int) + 2))).heap.size := fun k => (((Keeps.refl (fun k => k = B) w).drewN k).setCell ⟨B, 1, none⟩ (.int .i64 ((i : Int) + 2)) (.inr rfl)).size
  exact ⟨g, c, rfl, own_base HO.out (hz0 _), HE.out, (((Keeps.refl (fun k => k = B) w).drewN _).setCell ⟨B, 1, none⟩ _ (.inr rfl)).trans HK.out (fun _ _ e => e)⟩

/-- A text that isn't there whole is not read. -/
theorem reye_text_fail (B : Nat) (ao : Option Addr) (cap : Nat) (bs : List UInt8) (i : Nat) (w : World) (h : REye w B ao cap bs i) (hl : bs.length ≤ 140737488351232) (hm : bs.length < i + 2 ∨ bs.length < i + 2 + beVal ((bs.drop i).take 2)) :
    Calls Try.prog 29 #[.pointer (some ⟨B, 0, none⟩)] w fun e w' => ∃ g, e = .returned (.tuple #[.slice (some ⟨g, 0, none⟩) 0 0, .int .i64 20]) ∧ Same w w' := by
  by_cases h2 : bs.length < i + 2
  · exact reye_text_short1 B ao cap bs i w h hl h2
  · exact reye_text_short2 B ao cap bs i _ w h hl (by omega) rfl (by omega)

end Go.Proofs.Ytdeajjppmgfemaa
