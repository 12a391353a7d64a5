/- bytes.Compare; the order of texts. -/
import Derived.Test.YteidjpnmfmcfkaaBase
import Derived.Test.YteidjpnmfmcfkaaPlan5
import Derived.Lib.Bytealg
import Derived.Lib.BytesEntry
import Derived.Laws.Externs
namespace Go.Proofs.Yteidjpnmfmcfkaa
open Go.RowKit
set_option linter.unusedVariables false

theorem cmp_less : ∀ (a b : List UInt8), (Lib.compareBytes a b < 0 ↔ Op.bytesLess a b = true) ∧ (Lib.compareBytes a b = 0 ↔ a = b) ∧ (0 < Lib.compareBytes a b ↔ Op.bytesLess b a = true) ∧ -1 ≤ Lib.compareBytes a b ∧ Lib.compareBytes a b ≤ 1
  | [], [] => by simp [Lib.compareBytes, Op.bytesLess]
  | [], _ :: _ => by simp [Lib.compareBytes, Op.bytesLess]
  | _ :: _, [] => by simp [Lib.compareBytes, Op.bytesLess]
  | a :: ar, b :: br => by
    obtain ⟨h1, h2, h3, h4, h5⟩ := cmp_less ar br
    simp only [Lib.compareBytes, Op.bytesLess]
    by_cases hab : a < b
    · have hne : ¬ a = b := fun e => by subst e; exact UInt8.lt_irrefl a hab
      have hba : ¬ b < a := fun h => UInt8.lt_irrefl a (UInt8.lt_trans hab h)
      have hne2 : ¬ b = a := fun e => hne e.symm
      simp [hab, hne, hba, hne2]
    · by_cases hba : b < a
      · have hne : ¬ a = b := fun e => by subst e; exact UInt8.lt_irrefl a hba
        simp [hab, hne, hba]
      · have he : a = b := UInt8.le_antisymm (UInt8.not_lt.1 hba) (UInt8.not_lt.1 hab)
        subst he
        simp [hab]
        exact ⟨h1, h2, h3, h4, h5⟩

theorem run_bytesOf {P : Program} {w : World} {x : Value} {bs : List UInt8} (h : Bytes w x bs) : (Extern.Bytes.bytesOf x).run P w = .ok ⟨bs.toArray⟩ w := by
  rcases h with ⟨a, c, rfl, hc⟩ | ⟨c, rfl, rfl⟩
  · have := Lib.run_loadBytesX (P := P) w (bs.map fun b => (b.toNat : Int)) a .empty (fun j v hj => hc j _ (by
      rw [List.getElem?_map] at hj
      simp only [u8s, List.getElem?_map]
      cases hb : bs[j]? with
      | none => rw [hb] at hj; simp at hj
      | some b => rw [hb] at hj; simp at hj; simp [hj]))
    rw [List.length_map] at this
    have e : Lib.bytesOf (bs.map fun b => (b.toNat : Int)) = bs := by
      simp only [Lib.bytesOf, List.map_map]
      conv => rhs; rw [← List.map_id bs]
      refine List.map_congr_left fun b _ => ?_
      simp
    rw [e] at this
    simp only [Extern.Bytes.bytesOf]
    rw [this]
    congr 1
    apply ByteArray.ext
    simp
  · simp only [Extern.Bytes.bytesOf]
    rfl
theorem run_compareBytes {P : Program} {w : World} {x y : Value} {a b : List UInt8} (hx : Bytes w x a) (hy : Bytes w y b) :
    (Extern.BytealgCompare.compare #[x, y]).run P w = .ok (.int .i64 (Lib.compareBytes a b)) w := by
  change Sem.run P (do pure (goInt (Extern.BytealgCompare.cmp (← Extern.Bytes.bytesOf x) (← Extern.Bytes.bytesOf y)))) w = _
  simp only [Sem.run_bind, run_bytesOf hx, run_bytesOf hy, Sem.run_pure, Result.andThen]
  rw [Lib.cmp_eq]
  rfl

set_option maxRecDepth 100000 in
set_option maxHeartbeats 800000 in
theorem bytesCompare_any (x y : Value) (a b : List UInt8) (w : World) (hx : Bytes w x a) (hy : Bytes w y b) :
    Calls Try.prog 33 #[x, y] w fun e w' => e = .returned (.int .i64 (Lib.compareBytes a b)) ∧ w' = w := by
  have hr := run_compareBytes (P := Try.prog) hx hy
  go_enter Try.func33, Try.ntmps33
  go_wp2
  rw [run_callFunc_extern Try.func35 (by kernel_rfl) (by kernel_rfl) (by kernel_rfl) (e := Extern.BytealgCompare.compare) (by kernel_rfl), hr]
  simp only [Result.andThen]
  rw [Oper.upon_value]
  go_wp2
  go_ret
  exact ⟨rfl, rfl⟩
end Go.Proofs.Yteidjpnmfmcfkaa
