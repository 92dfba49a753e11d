/- The table of the names of codings: what a row's list of package-level variables gives. -/
import Derived.Test.YtjhgibmeokghmaaDoorCodP
import Derived.Test.YtjhgibmeokghmaaDoorOwn
import Derived.Stop.LaidErr
import Derived.Lib.LaidTab
namespace Go.Proofs.YtjhgibmeokghmaaDoor
open Go.RowKit

def strsData {H : Type} (zs : List (List UInt8)) : DataW H := .agg (zs.map fun z => .lit (.string z))

/-- An array of texts that reads as the table holds the table's texts, cell for cell. -/
theorem cells_of_strs {H : Type} {enc : TypeId × Value → H} {P : Program} {w : World} {base : Nat} {sp : Nat → Bool} {held : Bool} {fuel : Nat} {t e : TypeId} {n : Nat} {cs : List Value} {zs : List (List UInt8)} {p : List MemPlace}
    (ht : P.underlying t = some (.array n e)) (he : P.underlying e = some .string) (hce : P.cellsOf e = 1) (hct : P.cellsOf t = n)
    (h : DataW.trod enc P w base sp held fuel t cs = some (strsData zs, p)) : cs = zs.map strV := by
  cases fuel with
  | zero => simp [DataW.trod] at h
  | succ fuel =>
    simp only [DataW.trod, ht, hce, hct, Nat.mul_one] at h
    split at h
    · rename_i hl
      obtain ⟨xs, hm, hx⟩ := Option.map_eq_some_iff.1 h
      have hxs : xs.map (·.1) = zs.map fun z => (DataW.lit (.string z) : DataW H) := by
        have := congrArg Prod.fst hx
        simpa [strsData] using this
      have hxl : xs.length = n := by simpa using Lib.mapM_length hm
      have hzl : zs.length = n := by
        have := congrArg List.length hxs
        simp at this
        omega
      apply List.ext_getElem?
      intro i
      by_cases hi : i < n
      · obtain ⟨b, hb, hf⟩ := Lib.mapM_at hm i i (by simp [hi])
        obtain ⟨z, hc, rfl, _⟩ := DataW.trod_string he hf
        have h1 : cs[i]? = some (.string z) := by
          have := congrArg (·[0]?) hc
          simpa [List.getElem?_take, List.getElem?_drop] using this
        have h2 : (xs.map (·.1))[i]? = some (DataW.lit (.string z.data.toList) : DataW H) := by simp [hb]
        rw [hxs] at h2
        simp only [List.getElem?_map, Option.map_eq_some_iff, DataW.lit.injEq, Lit.string.injEq] at h2
        obtain ⟨z', hz', hz2⟩ := h2
        rw [h1, List.getElem?_map, hz']
        simp [hz2]
      · rw [List.getElem?_eq_none (by omega), List.getElem?_eq_none (by simp; omega)]
    · cases h

/-- The names of codings lie in their variable. -/
def Cds (w : World) : Prop := 0 < w.heap.size ∧ w.cell? ⟨0, 0, none⟩ = some (.string ⟨#[112, 108, 97, 105, 110]⟩) ∧ w.cell? ⟨0, 1, none⟩ = some (.string ⟨#[103, 122]⟩) ∧ w.cell? ⟨0, 2, none⟩ = some (.string ⟨#[98, 114]⟩)
theorem Cds.below {w w' : World} (h : Cds w) {B : Nat} (hb : Below B w w') (hB : w.heap.size ≤ B) : Cds w' := by
  obtain ⟨h0, h1, h2, h3⟩ := h
  have hl := Nat.lt_of_lt_of_le h0 hB
  exact ⟨Nat.lt_of_lt_of_le h0 hb.size, (hb.cell (p := ⟨0, 0, none⟩) hl).trans h1, (hb.cell (p := ⟨0, 1, none⟩) hl).trans h2, (hb.cell (p := ⟨0, 2, none⟩) hl).trans h3⟩
theorem Cds.drewN {w : World} (h : Cds w) (n : Nat) : Cds (w.drewN n) := h

theorem gCds : Tryd.prog.globalNamed "loop.example/godown/impl.codingNames" = some 0 := by kernel_rfl
theorem gCdsT : (Tryd.prog.globals[0]?).map (·.type) = some 72 := by kernel_rfl
theorem cellsCds : Tryd.prog.cellsOf 72 = 3 := by kernel_rfl
theorem cellsCdsS : Tryd.prog.cellsOf 9 = 1 := by kernel_rfl

theorem cds_of_head {W : World} {rest : List (String × DataW Unit)} (h : laidMet Tryd.prog (("loop.example/godown/impl.codingNames", Rows.laid_loop_example_godown_impl_codingNames) :: rest) W) : Cds W := by
  rw [show Rows.laid_loop_example_godown_impl_codingNames = strsData [nPlain, nGz, nBr] from by kernel_rfl] at h
  obtain ⟨ps, ⟨g', t', cs, fuel, p, q, hg', ht', hvar, hd, _, _⟩, _⟩ := h
  obtain rfl := Option.some.inj (gCds.symm.trans hg')
  obtain rfl := Option.some.inj (gCdsT.symm.trans ht')
  have hcs := cells_of_strs Tryd.underlying72 Tryd.underlying9 cellsCdsS cellsCds hd
  obtain ⟨l⟩ := cs
  have hcs : l = [strV nPlain, strV nGz, strV nBr] := hcs
  subst hcs
  have c0 := World.var?_cell gCds hvar 0
  have c1 := World.var?_cell gCds hvar 1
  have c2 := World.var?_cell gCds hvar 2
  exact ⟨World.block_lt_of_cell? W _ c0, c0, c1, c2⟩
end Go.Proofs.YtjhgibmeokghmaaDoor
