/- The reach: how long a slice of bytes that came in may be. -/
import Derived.Test.YtiddnhnfpggomaaDoorFrame
import Derived.Test.YtiddnhnfpggomaaDoorApp
import Derived.SizedLaws
import Derived.OpenShut
namespace Go.Proofs.YtiddnhnfpggomaaDoor
open Go.ChangeShapes Go.WideShapes Go.ChangeAt Go.RowKit
set_option linter.unusedVariables false

theorem trod_slice_len {H : Type} {enc : TypeId × Value → H} {P : Program} {w : World} {base : Nat} {spare : Nat → Bool} {held : Bool} {fuel : Nat} {t e : TypeId} {a : Addr} {len cap : Nat} {x : DataW H × List MemPlace} (ht : P.underlying t = some (.slice e))
    (h : DataW.trod enc P w base spare held fuel t [.slice (some a) len cap] = some x) : ∃ elems rest, x.1 = .slice elems rest ∧ elems.length = len := by
  cases fuel with
  | zero => simp [DataW.trod] at h
  | succ m =>
    unfold DataW.trod at h
    rw [ht] at h
    simp only at h
    split at h
    · rw [Option.bind_eq_some_iff] at h
      obtain ⟨elems, h1, h2⟩ := h
      rw [Option.map_eq_some_iff] at h2
      obtain ⟨rest, h3, rfl⟩ := h2
      exact ⟨elems.map (·.1), rest.map (·.1), rfl, by simpa using mapM_some_length h1⟩
    · simp at h
theorem sized_bytes {H : Type} {enc : TypeId × Value → H} {P : Program} {W : World} {ts : List TypeId} {ds : List (DataW H)} {j : Nat} {t e : TypeId} {d : DataW H} {ps : List MemPlace} {ao : Option Addr} {c : Nat} {bs : List UInt8}
    (hsz : (DataW.weightsEach P ts ds).all (· ≤ reachBytes) = true) (ht : ts[j]? = some t) (hd : ds[j]? = some d) (hu : P.underlying t = some (.slice e)) (hb : P.bytesOf e = 1)
    (h : DataW.Trod enc P W 0 (fun _ => true) true t (.slice ao bs.length c) d ps) (hx : Bytes W (.slice ao bs.length c) bs) : bs.length ≤ 140737488351232 := by
  cases ao with
  | none =>
    rcases hx with ⟨a, c', e, _⟩ | ⟨c', e, rfl⟩
    · simp at e
    · simp
  | some a =>
    obtain ⟨fuel, hf⟩ := h
    obtain ⟨elems, rest, h1, h2⟩ := trod_slice_len hu (by simpa [Value.cells] using hf)
    simp only at h1
    have h3 := sized_slice hsz ht (by rw [hd, h1]) hu
    rw [hb, Nat.mul_one] at h3
    have : reachBytes = 140737488351232 := by decide
    omega

end Go.Proofs.YtiddnhnfpggomaaDoor
