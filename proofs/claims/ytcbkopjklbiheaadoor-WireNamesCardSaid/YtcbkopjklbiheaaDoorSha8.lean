/- Digests compared; sha.Sum; the examples. -/
import Derived.Test.YtcbkopjklbiheaaDoorSha7
import Derived.Laws.StructEq
namespace Go.Proofs.YtcbkopjklbiheaaDoor
open Go.RowKit
set_option linter.unusedVariables false

theorem run_forIn_yield {β : Type} {P : Program} {w : World} (b : β) (f : Nat → β → Sem (ForInStep β)) : ∀ (l : List Nat), (∀ i ∈ l, (f i b).run P w = .ok (.yield b) w) → (forIn l b f).run P w = .ok b w
  | [], _ => by simp
  | i :: l, h => by
    rw [List.forIn_cons, Sem.run_bind, h i (by simp), Result.andThen_ok]
    exact run_forIn_yield b f l fun j hj => h j (by simp [hj])

theorem run_equal_refl {P : Program} (w : World) (d : Nat) (t e : TypeId) (i : TypeInfo) (n : Nat) (bs : List UInt8) (ht : P.underlying t = some (.array n e)) (he : P.underlying e = some (.int .u8)) (hi : P.info? e = some i) (hs : i.size = 1) (hl : bs.length = n) :
    (Op.equalIn (d + 2) t (.agg (u8s bs).toArray) (.agg (u8s bs).toArray)).run P w = .ok true w := by
  have hp : ∀ j, j < n → (part e (u8s bs).toArray j).run P w = .ok (.int .u8 ((bs.getD j 0).toNat : Int)) w := fun j hj => by
    have h1 := u8s_get bs j (by omega)
    simp [part, isAgg, run_underlying he, h1]
  have hbody := run_forIn_yield (P := P) (w := w) ((none, ()) : Option Bool × Unit) (fun j __s => do
            let x ← part e (u8s bs).toArray j
            let y ← part e (u8s bs).toArray j
            let z ← Op.equalIn (d + 1) e x y
            if z = false then pure (ForInStep.done (some false, ())) else pure (ForInStep.yield (none, ()))) (List.range' 0 n) (fun j hj => by
      have hj' : j < n := by
        have := List.mem_range'_1.1 hj; omega
      simp only [Sem.run_bind, hp j hj', Result.andThen_ok, run_equalIn_int w d e .u8 .u8 _ _ he]
      simp)
  unfold Op.equalIn
  simp only [Sem.run_bind, run_underlying ht, Result.andThen_ok, sizeOf, typeInfo]
  simp [hi, hs, hbody]

/-- The digest of bytes. -/
def shaOf (bs : List UInt8) : List UInt8 := digest (feed hs0 bs)
theorem shaOf_length (bs : List UInt8) : (shaOf bs).length = 32 := digest_length _

theorem Tryd.sizeHash (bs : List UInt8) (h : bs.length = 32) : (Tryd.prog.info? 25).map (·.size) = some (u8s bs).toArray.size := by
  have e : (u8s bs).toArray.size = 32 := by rw [List.size_toArray, u8s_length]; exact h
  have e2 : (Tryd.prog.info? 25).map (·.size) = some 32 := by kernel_rfl
  rw [e]; exact e2
theorem size32 (bs cs : List UInt8) (h : bs.length = 32) (h' : cs.length = 32) : (u8s bs).toArray.size = (u8s cs).toArray.size := by
  rw [List.size_toArray, List.size_toArray, u8s_length, u8s_length, h, h']

set_option maxRecDepth 100000 in
set_option maxHeartbeats 6400000 in
theorem shaSum_any (ao : Option Addr) (L cap : Nat) (bs : List UInt8) (w : World) (hb : Bytes w (.slice ao L cap) bs) (hL : bs.length = L) (hc : L ≤ cap) (hcm : cap ≤ 9223372036854775807) (hl : L ≤ 1000000) (hN : Nums w) :
    Calls Tryd.prog 23 #[.slice ao L cap] w fun e w' => e = .returned (.agg (u8s (shaOf bs)).toArray) ∧ Same w w' := by
  have HB := Lib.hid hb
  have HN := Lib.hid hN
  have HL := Lib.hid hL
  clear hb hN hL
  go_enter Tryd.func23, Tryd.ntmps23
  go_wp2_with fail
  ((with_reducible refine (new_any _ (by simp)).mono ?_); rintro e w2 ⟨rfl, hh2, hk2⟩)
  have HH2 : Hid (HasherAt w2 (w.heap.size + 1) hs0) := Lib.hid (by simpa using hh2)
  have HK2 : Hid (Same w w2) := Lib.hid (((Keeps.refl _ _).alloc _).trans hk2 (fun _ _ e => e))
  have HR2 : Hid (Whole w2 w.heap.size 25 (u8s (List.replicate 32 0))) := Lib.hid (by
    have h2 : Whole (w.alloc (.cells #[.int .u8 0, .int .u8 0, .int .u8 0, .int .u8 0, .int .u8 0, .int .u8 0, .int .u8 0, .int .u8 0, .int .u8 0, .int .u8 0, .int .u8 0, .int .u8 0, .int .u8 0, .int .u8 0, .int .u8 0, .int .u8 0, .int .u8 0, .int .u8 0, .int .u8 0, .int .u8 0, .int .u8 0, .int .u8 0, .int .u8 0, .int .u8 0, .int .u8 0, .int .u8 0, .int .u8 0, .int .u8 0, .int .u8 0, .int .u8 0, .int .u8 0, .int .u8 0] 25)) w.heap.size 25 (u8s (List.replicate 32 0)) := heap_alloc_new w _
    exact h2.keep hk2 (fun e => e))
  clear hh2 hk2
  go_wp2_with fail
  ((with_reducible refine (add_any (w.heap.size + 1) hs0 bs ao L cap _ HH2.out (HN.out.keep HK2.out (fun e => e)) (fun w' hk => HB.out.far (HL.out.symm) (HK2.out.any.trans hk (fun j _ e => e)) (fun j hj e => by omega)) HL.out hc hcm (by simp only [hs0]; omega)).mono ?_); rintro e w3 ⟨rfl, hh3, hk3⟩)
  have HH3 := Lib.hid hh3
  have HK3 : Hid (Same w w3) := Lib.hid (HK2.out.trans hk3 (fun j hj e => by omega))
  have HR3 : Hid (Whole w3 w.heap.size 25 (u8s (List.replicate 32 0))) := Lib.hid (HR2.out.keep hk3 (by omega))
  clear hh3 hk3
  go_wp2_with fail
  ((with_reducible refine (sum_any (w.heap.size + 1) (feed hs0 bs) _ HH3.out (HN.out.keep HK3.out (fun e => e))).mono ?_); rintro e w4 ⟨rfl, hk4⟩)
  have hs : digest (feed hs0 bs) = shaOf bs := rfl
  rw [hs]
  have HK4 : Hid (Same w w4) := Lib.hid (HK3.out.trans hk4 (fun _ _ e => e))
  have HR4 : Hid (Whole w4 w.heap.size 25 (u8s (List.replicate 32 0))) := Lib.hid (HR3.out.keep hk4 (fun e => e))
  have HI := Lib.hid (Tryd.sizeHash (shaOf bs) (shaOf_length bs))
  have HS := Lib.hid (size32 (List.replicate 32 0) (shaOf bs) (by simp) (shaOf_length bs))
  have HEND : Hid (Same w (w4.setRow w.heap.size (u8s (shaOf bs)).toArray) ∧ Whole (w4.setRow w.heap.size (u8s (shaOf bs)).toArray) w.heap.size 25 (u8s (shaOf bs))) := Lib.hid
    ⟨HK4.out.setRow _ _ (.inl (Nat.le_refl _)), HR4.out.row⟩
  clear hk4 hs
  go_wp2_with (refine wpList_store_row (by rfl) 25 _ _ (by rfl) w.heap.size (u8s (shaOf bs)).toArray (by rfl) (by rfl) 25 (u8s (List.replicate 32 0)).toArray HR4.out HI.out HS.out (u8s_all _) ?_)
  exact bodyPost_ret (v := .agg (u8s (shaOf bs)).toArray) (results_cell_row (p := 2) (ty := 25) rfl _ _ w.heap.size 25 _ (0, 0) _ (by rfl) HEND.out.2 Tryd.underlying25 rfl HI.out) rfl ⟨rfl, HEND.out.1⟩

theorem sha_nil : (shaOf []).take 4 = [227, 176, 196, 66] := by decide +kernel
theorem sha_abc : (shaOf [97, 98, 99]).take 4 = [186, 120, 22, 191] := by decide +kernel

end Go.Proofs.YtcbkopjklbiheaaDoor
