/- strings.Split and strings.Join, as the shelf tells them, at this program. -/
import Derived.Test.YtjehihgcbbialaaDoorLayP
import Derived.Test.YtjehihgcbbialaaDoorPth0
import Derived.Shelf.Strings.Split
import Derived.Shelf.Strings.OnBuilder
import Derived.Deep.MidRow
namespace Go.Proofs.YtjehihgcbbialaaDoor
open Go.Shelf Go.RowKit
set_option linter.unusedVariables false

theorem laysExtra : Go.Proofs.Builder.Extra Tryd.prog laysJoin_ren where
  sizeBuilder := by kernel_rfl
  liesBuilder := by kernel_rfl
  t5 := Tryd.underlying5
  a5 := Tryd.isAgg5
  z5 := Tryd.sizeOf5
  v5 := Tryd.zeroValue5
  infoByte := by kernel_rfl
  cellsByte := by kernel_rfl
  sizeByte := by kernel_rfl
  neB5 := by decide
def slash : ByteArray := ⟨#[47]⟩
/-- What strings.Split asks of a package-level variable: that it holds a number. -/
def Env (w : World) : Prop := ∃ m, w.cell? ⟨laysSplit_ren.g 1, 0, none⟩ = some (.int .i64 m)
theorem Env.same {w w' : World} (h : Env w) (k : Same w w') : Env w' := by
  obtain ⟨m, hm⟩ := h
  refine ⟨m, ?_⟩
  rw [World.cell?_of_block (w := w) (k.block _ (World.block_lt_of_cell? w _ hm) (fun e => e))]
  exact hm
theorem splitB_cut (s : ByteArray) : (Lib.splitB slash 0 (Lib.countB s slash) s).map sb = cut47 (sb s) := (Lib.splitB_data slash 0 (Lib.countB s slash) s).trans (split_cut (sb s))
theorem splitB_bsA (s : ByteArray) : Lib.splitB slash 0 (Lib.countB s slash) s = (cut47 (sb s)).map bsA := by
  rw [← splitB_cut, List.map_map]
  have : (bsA ∘ sb) = id := funext fun x => bsA_sb x
  rw [this, List.map_id]
theorem split_len (s : ByteArray) : Lib.countB s slash + 1 = (cut47 (sb s)).length := by
  rw [← splitB_cut, List.length_map]
  exact (Lib.splitB_all slash (by decide) 0 (Lib.countB s slash) s rfl).symm
/-- strings.Split at a slash. -/
theorem split_any (s : ByteArray) (w : World) (he : Env w) (hs : s.size < 4294967281) :
    Calls Tryd.prog 27 #[.string s, .string ⟨#[47]⟩] w fun e w' => ∃ g, e = .returned (.slice (some ⟨g, 0, none⟩) (cut47 (sb s)).length (cut47 (sb s)).length) ∧ Strs w' (.slice (some ⟨g, 0, none⟩) (cut47 (sb s)).length (cut47 (sb s)).length) ((cut47 (sb s)).map bsA) ∧ w.heap.size ≤ g ∧ Same w w' := by
  obtain ⟨m, hm⟩ := he
  have h := Any.strings_Split (P := Tryd.prog) (ρ := laysSplit_ren) { laysSplit with } laysSplit.i9 s slash m w hs hm (by decide)
  refine Calls.mono h fun e w' ⟨h1, h2⟩ => ?_
  rw [split_len] at h1
  rw [splitB_bsA] at h2
  subst h2
  refine ⟨w.heap.size, h1, .inl ⟨⟨w.heap.size, 0, none⟩, _, by rw [List.length_map], fun j x hj => ?_⟩, Nat.le_refl _, (Keeps.refl _ _).alloc _⟩
  have h0 := heap_alloc_new w (.cells ((cut47 (sb s)).map bsA |>.map Value.string).toArray (laysSplit_ren.t 9))
  rw [Addr.add_mid, Nat.zero_add, cell_of_row _ _ _ _ _ _ h0]
  simp only [List.getElem?_toArray, List.getElem?_map] at hj ⊢
  rw [hj]; rfl
/-- strings.Join at a slash. -/
theorem join_any (ao : Option Addr) (n c : Nat) (xs : List ByteArray) (w : World) (h : Strs w (.slice ao n c) xs) (hn : xs.length = n) (hsp : ∀ a, ao = some a → a.spot = none) (hc : n ≤ c) (hl : n ≤ 1000000) (hlen : (Lib.join (xs.map sb) [47]).length ≤ 1000000) :
    Calls Tryd.prog 30 #[.slice ao n c, .string ⟨#[47]⟩] w fun e w' => e = .returned (.string (bsA (Lib.join (xs.map sb) [47]))) ∧ Same w w' := by
  by_cases h0 : n = 0
  · subst h0
    have hx := List.length_eq_zero_iff.1 hn
    subst hx
    exact Calls.mono (Any.strings_Join_none (P := Tryd.prog) laysJoin laysExtra ao c slash w) fun e w' ⟨h1, h2⟩ => ⟨h1, by rw [h2]; exact Keeps.refl _ _⟩
  · subst hn
    have hne : xs ≠ [] := fun e => h0 (by rw [e]; rfl)
    obtain ⟨a, rfl, _⟩ := h.at (j := 0) (by omega)
    have hlt := h.lt hne
    obtain ⟨bk, o, sp⟩ := a
    have hs := hsp _ rfl
    simp only at hs
    subst hs
    have hj := Any.strings_Join (P := Tryd.prog) (ρ := laysJoin_ren) laysJoin laysExtra bk o c xs slash w (fun j x hx => by
      have hjl := (List.getElem?_eq_some_iff.1 hx).1
      obtain ⟨a', e, hc'⟩ := h.at hjl
      simp only [Option.some.injEq] at e
      subst e
      rw [Addr.add_mid] at hc'
      rw [hc', (List.getElem?_eq_some_iff.1 hx).2]) hlt (by omega) hc (by show (Lib.join (xs.map sb) [47]).length ≤ _; omega)
    exact Calls.mono hj fun e w' ⟨h1, h2⟩ => ⟨h1, (Keeps.of_below h2).mono fun j hj hn => by omega⟩
end Go.Proofs.YtjehihgcbbialaaDoor
