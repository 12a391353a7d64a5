/- The walk of ShaSums. -/
import Derived.Test.YtalamolajhihnaaDoorSha19
namespace Go.Proofs.YtalamolajhihnaaDoor
open Go.RowKit
set_option linter.unusedVariables false

set_option maxRecDepth 100000 in
set_option maxHeartbeats 12800000 in
theorem sums_long (ao : Option Addr) (n c : Nat) (w : World) (hN : Nums w) (h1 : (3000 : Int) < (n : Int)) :
    Calls Tryd.prog 3 #[.slice ao n c] w fun e w' => e = .returned (.bool true) ∧ Same w w' := by
  have HN := Lib.hid hN
  clear hN
  go_enter Tryd.func3, Tryd.ntmps3
  go_wp2_with fail
  ((with_reducible refine (speaks03 _ HN.out).mono ?_); rintro e w1 ⟨rfl, hk1⟩)
  go_wp2
  go_ret
  exact ⟨rfl, hk1⟩

set_option maxRecDepth 100000 in
set_option maxHeartbeats 12800000 in
theorem sums_short (ao : Option Addr) (c : Nat) (bs : List UInt8) (w : World) (hN : Nums w) (hb : Held w ao bs.length c bs) (hsp : ∀ a, ao = some a → bs ≠ [] → a.spot = none) (h1 : ¬ (3000 : Int) < (bs.length : Int)) :
    Calls Tryd.prog 3 #[.slice ao bs.length c] w fun e w' => e = .returned (.bool true) ∧ Same w w' := by
  have HN := Lib.hid hN
  have HB := Lib.hid hb
  have HSP := Lib.hid hsp
  obtain ⟨i0, hi0, hz0, hz1, hz2⟩ := info_parts (show (Tryd.prog.info? 5).map (fun i => (i.zero, i.size, i.bytes)) = some (some (.int .u8 0), 1, 1) from by kernel_rfl)
  clear hN hb hsp
  go_enter Tryd.func3, Tryd.ntmps3
  go_wp2_with fail
  ((with_reducible refine (speaks03 _ HN.out).mono ?_); rintro e w1 ⟨rfl, hk1⟩)
  have HK1 := Lib.hid hk1
  have HOE := Lib.hid (own_empty w1 5)
  have HBE : Hid (Bytes (w1.alloc (.cells #[] 5)) (.slice ao bs.length c) bs) := Lib.hid (HB.out.1.same (hk1.alloc _))
  clear hk1
  go_wp2_with (at_builtin; refine wpList_append_bytes_g (by rfl) _ _ 22 5 i0 (by rfl) Tryd.underlying22 hi0 hz0 hz1 hz2 w1.heap.size w1.heap.size 0 [] bs _ (by rfl) (by rfl) HOE.out HBE.out (by simp; omega) (by simp) ?_)
  intro g1 c1 w2 ho2 hg2 hat2
  try simp only [List.length_nil, Nat.zero_add, List.nil_append] at ho2
  try simp only [List.length_nil, Nat.zero_add]
  have hk12 : Same w1 w2 := ((Keeps.refl (fun _ => False) w1).alloc _).grown hg2 (fun k e hk => by simp only [Option.some.injEq] at e; omega)
  have HK2 : Hid (Same w w2) := Lib.hid (HK1.out.trans hk12 (fun _ _ e => e))
  have HO2 := Lib.hid ho2
  have HC2 := Lib.hid (own_cap ho2)
  have HBY2 : Hid (Bytes w2 (.slice (some ⟨g1, 0, none⟩) bs.length c1) bs) := Lib.hid (Bytes.of_own ho2)
  clear ho2 hg2 hat2 hk12 HOE HBE
  go_wp2_with fail
  ((with_reducible refine (shaSum_d _ bs.length c1 bs _ HBY2.out rfl HC2.out.1 HC2.out.2 (by omega) (HN.out.keep HK2.out (fun e => e))).mono ?_); rintro e w3 ⟨rfl, hk3⟩)
  have HK3 : Hid (Same w w3) := Lib.hid (HK2.out.trans hk3 (fun _ _ e => e))
  have HBY3 : Hid (Bytes w3 (.slice (some ⟨g1, 0, none⟩) bs.length c1) bs) := Lib.hid (HBY2.out.same hk3)
  have HB3 : Hid (Bytes w3 (.slice ao bs.length c) bs) := Lib.hid (HB.out.1.same HK3.out)
  clear hk3
  go_wp2_with fail
  ((with_reducible refine (rsum_any ao bs.length c bs _ HB3.out rfl (by omega)).mono ?_); rintro e w4 ⟨rfl, hk4⟩)
  have HK4 : Hid (Same w w4) := Lib.hid (HK3.out.trans hk4 (fun _ _ e => e))
  have HBY4 : Hid (Bytes w4 (.slice (some ⟨g1, 0, none⟩) bs.length c1) bs) := Lib.hid (HBY3.out.same hk4)
  have HB4 : Hid (Bytes w4 (.slice ao bs.length c) bs) := Lib.hid (HB.out.1.same HK4.out)
  clear hk4
  have hla := digest_length (feed hs0 bs)
  generalize digest (feed hs0 bs) = da at hla ⊢
  have HEQa := Lib.hid (Tryd.hashSame da hla)
  clear hla
  have k1 : (convert 22 9 (.slice (some ⟨g1, 0, none⟩) bs.length c1)).run Tryd.prog w4 = .ok (.string ⟨bs.toArray⟩) w4 := run_string' HBY4.out (fun a e _ => by cases e; rfl) _ _ _ Tryd.underlying22 Tryd.underlying5 Tryd.underlying9
  have k2 : (convert 22 9 (.slice ao bs.length c)).run Tryd.prog w4 = .ok (.string ⟨bs.toArray⟩) w4 := run_string' HB4.out HSP.out _ _ _ Tryd.underlying22 Tryd.underlying5 Tryd.underlying9
  go_wp2_with (refine wpList_eql_same (by rfl) _ _ 25 _ (by rfl) (u8s da).toArray (by rfl) (by rfl) Tryd.hashGuard HEQa.out ?_)
  go_ret
  exact ⟨rfl, HK4.out⟩

end Go.Proofs.YtalamolajhihnaaDoor
