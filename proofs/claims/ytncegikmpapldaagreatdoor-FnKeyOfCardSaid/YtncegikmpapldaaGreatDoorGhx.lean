import Derived.Test.YtncegikmpapldaaGreatDoorHxA
import Derived.Test.YtncegikmpapldaaGreatDoorGhed
import Derived.Test.YtncegikmpapldaaGreatDoorFOpen
import Derived.Lib.SmallJoins
import Derived.Test.YtncegikmpapldaaGreatDoorGimp
-- from XHxB
/- The laws' own helpers over requests: sized, copied, equal, marked, held. -/
namespace Go.Proofs.YtncegikmpapldaaGreatDoor
open Go.RowKit Go.Maps

def headV (h : Hd) (v : Value) : Value := .agg #[.string h.verb, .string h.target, .string h.host, v, .string h.body]
structure HSz (h : Hd) : Prop where
  verb : h.verb.size ≤ 1048576
  target : h.target.size ≤ 1048576
  host : h.host.size ≤ 1048576
  body : h.body.size ≤ 1048576
  fs : FOk h.fs 1048576
  len : h.fs.length ≤ 1048576

end Go.Proofs.YtncegikmpapldaaGreatDoor

-- from XHxF
/- A request that came in, opened. -/
namespace Go.Proofs.YtncegikmpapldaaGreatDoor
open Go.RowKit Go.ChangeShapes Go.WideShapes Go.Deep Go.Joins

theorem array5 {α : Type} {cs : Array α} (h : cs.size = 5) : ∃ c0 c1 c2 c3 c4, cs = #[c0, c1, c2, c3, c4] := by
  obtain ⟨l⟩ := cs
  match l, h with
  | [c0, c1, c2, c3, c4], _ => exact ⟨c0, c1, c2, c3, c4, rfl⟩

section
variable {H : Type} {enc : TypeId × Value → H} {P : Program} {w : World} {base : Nat} {spare : Nat → Bool} {held : Bool}
theorem trod_struct5 {t : TypeId} {f0 f1 f2 f3 f4 : Field} {fuel : Nat} {cs : List Value} {x : DataW H × List MemPlace} (ht : P.underlying t = some (.struct #[f0, f1, f2, f3, f4])) (h : DataW.trod enc P w base spare held fuel t cs = some x) :
    ∃ y0 y1 y2 y3 y4 n, x = (.agg [y0.1, y1.1, y2.1, y3.1, y4.1], y0.2 ++ (y1.2 ++ (y2.2 ++ (y3.2 ++ y4.2)))) ∧ DataW.trod enc P w base spare held n f0.type ((cs.drop f0.offset).take (P.cellsOf f0.type)) = some y0 ∧
      DataW.trod enc P w base spare held n f1.type ((cs.drop f1.offset).take (P.cellsOf f1.type)) = some y1 ∧ DataW.trod enc P w base spare held n f2.type ((cs.drop f2.offset).take (P.cellsOf f2.type)) = some y2 ∧
      DataW.trod enc P w base spare held n f3.type ((cs.drop f3.offset).take (P.cellsOf f3.type)) = some y3 ∧ DataW.trod enc P w base spare held n f4.type ((cs.drop f4.offset).take (P.cellsOf f4.type)) = some y4 := by
  obtain ⟨xs, n, _, rfl, hl, hlen, hf⟩ := DataW.trod_struct ht h
  match xs, hlen with
  | [y0, y1, y2, y3, y4], _ => exact ⟨y0, y1, y2, y3, y4, n, by simp, by simpa using hf 0 f0 rfl, by simpa using hf 1 f1 rfl, by simpa using hf 2 f2 rfl, by simpa using hf 3 f3 rfl, by simpa using hf 4 f4 rfl⟩
theorem open_agg5 {r : Reach} {b0 : Nat} {t : TypeId} {f0 f1 f2 f3 f4 : Field} {v : Value} {d : DataW H} {p : List MemPlace} (hs : P.underlying t = some (.struct #[f0, f1, f2, f3, f4])) (hone : oneCellFields P #[f0, f1, f2, f3, f4] = true) (hC : P.cellsOf t = 5)
    (hv : Value.okWide P w r b0 t v) (h : DataW.Trod enc P w base spare held t v d p) :
    ∃ (v0 v1 v2 v3 v4 : Value) (y0 y1 y2 y3 y4 : DataW H × List MemPlace) (n : Nat), v = .agg #[v0, v1, v2, v3, v4] ∧
      DataW.trod enc P w base spare held n f0.type [v0] = some y0 ∧ DataW.trod enc P w base spare held n f1.type [v1] = some y1 ∧ DataW.trod enc P w base spare held n f2.type [v2] = some y2 ∧ DataW.trod enc P w base spare held n f3.type [v3] = some y3 ∧ DataW.trod enc P w base spare held n f4.type [v4] = some y4 := by
  obtain ⟨cs, rfl, hsz⟩ := okWide_struct hs hv
  obtain ⟨c0, c1, c2, c3, c4, rfl⟩ := array5 (hsz.trans hC)
  obtain ⟨fuel, hf⟩ := h
  obtain ⟨y0, y1, y2, y3, y4, n, _, h0, h1, h2, h3, h4⟩ := trod_struct5 hs hf
  obtain ⟨o0, k0⟩ := hone_of hone 0 f0 rfl
  obtain ⟨o1, k1⟩ := hone_of hone 1 f1 rfl
  obtain ⟨o2, k2⟩ := hone_of hone 2 f2 rfl
  obtain ⟨o3, k3⟩ := hone_of hone 3 f3 rfl
  obtain ⟨o4, k4⟩ := hone_of hone 4 f4 rfl
  exact ⟨c0, c1, c2, c3, c4, y0, y1, y2, y3, y4, n, rfl, by simpa [Value.cells, o0, k0] using h0, by simpa [Value.cells, o1, k1] using h1, by simpa [Value.cells, o2, k2] using h2, by simpa [Value.cells, o3, k3] using h3, by simpa [Value.cells, o4, k4] using h4⟩
end

end Go.Proofs.YtncegikmpapldaaGreatDoor

-- from XHxM
/- The laws' own helpers over requests: a made row, marked and held. -/
namespace Go.Proofs.YtncegikmpapldaaGreatDoor
open Go.RowKit Go.Maps

/-- A made row of fields, written out. -/
theorem own_fcells {w : World} {B : Nat} {T : TypeId} {v : Value} {fs : List Fd} (h : w.ownsRow B T 2 v fs.length (fcells fs)) :
    (v = .slice none 0 0 ∧ fs = []) ∨ ∃ g cap, v = .slice (some ⟨g, 0, none⟩) fs.length cap ∧ B ≤ g ∧ FCells w g fs.length (fget fs) := by
  rcases h.2 with ⟨rfl, h0⟩ | ⟨g, cap, cur, rfl, hB, hh, hn, hm, hs, ht⟩
  · exact .inl ⟨rfl, List.eq_nil_of_length_eq_zero h0⟩
  · refine .inr ⟨g, cap, rfl, hB, cur, T, hh, by omega, fun i hi => ?_⟩
    have hf : fs[i]? = some fs[i] := List.getElem?_eq_getElem hi
    have hc := fcells_at hf
    rw [fget_at hf]
    have hget : ∀ j x, j < fs.length * 2 → (fcells fs)[j]? = some x → cur[j]? = some x := fun j x hj hx => by
      rw [← ht, List.getElem?_take, if_pos hj] at hx
      simpa using hx
    exact ⟨hget _ _ (by omega) hc.1, hget _ _ (by omega) hc.2⟩

theorem frow_own' {w : World} {B : Nat} {T : TypeId} {v : Value} {fs : List Fd} (h : w.ownsRow B T 2 v fs.length (fcells fs)) : FRow w v fs := by
  rcases h.2 with ⟨rfl, h0⟩ | ⟨b, cap, cur, rfl, hb, hh, hn, hm, hs, ht⟩
  · have : fs = [] := List.eq_nil_of_length_eq_zero h0
    subst this
    exact ⟨none, 0, rfl, Nat.le_refl _, Nat.zero_le _, fun j f hj => by simp at hj⟩
  · rcases own_fcells h with ⟨e, rfl⟩ | ⟨g, cap2, e, _, hF⟩
    · cases e
    · injection e with e1 _ e2
      injection e1 with e3
      injection e3 with e4
      subst e4; subst e2
      refine ⟨_, _, rfl, hn, hm, fun j f hj => ⟨b, 0, rfl, hF.lt, ?_, ?_⟩⟩
      · have := hF.cell0 (i := j) (List.getElem?_eq_some_iff.1 hj).1
        rw [fget_at hj] at this
        rw [Nat.zero_add]; exact this
      · have := hF.cell1 (i := j) (List.getElem?_eq_some_iff.1 hj).1
        rw [fget_at hj] at this
        rw [Nat.zero_add]; exact this

def MkS (w : World) (v : Value) (n : Nat) : Prop := (v = .slice none 0 0 ∧ n = 0) ∨ ∃ g cap, v = .slice (some ⟨g, 0, none⟩) n cap ∧ FCells w g n (mkFd 1)
theorem MkS.keep {w w' : World} {v : Value} {n : Nat} (h : MkS w v n) (hb : Below w.heap.size w w') : MkS w' v n := by
  rcases h with h | ⟨g, cap, h1, h2⟩
  · exact .inl h
  · exact .inr ⟨g, cap, h1, h2.keep (hb.block g h2.lt)⟩
end Go.Proofs.YtncegikmpapldaaGreatDoor

-- from XHxN
/- What an operation leaves that makes a request. -/
namespace Go.Proofs.YtncegikmpapldaaGreatDoor
open Go.RowKit Go.Maps

def RHd (h : Hd) : Value → World → Prop := fun x w => ∃ g, x = .agg #[.string h.verb, .string h.target, .string h.host, .slice (some ⟨g, 0, none⟩) h.fs.length h.fs.length, .string h.body] ∧ FRow w (.slice (some ⟨g, 0, none⟩) h.fs.length h.fs.length) h.fs
theorem steady_hd (h : Hd) : Steady (RHd h) := fun _ _ _ ⟨g, h1, h2⟩ hb => ⟨g, h1, h2.below (Nat.le_refl _) hb⟩
theorem ok2 {fs : List Fd} (h : FOk fs 1048576) : FOk fs 2000000 := fun f hf => ⟨Nat.le_trans (h f hf).1 (by decide), Nat.le_trans (h f hf).2 (by decide)⟩
theorem ok3 {fs : List Fd} (h : FOk fs 1048576) : FOk fs 281474976710656 := fun f hf => ⟨Nat.le_trans (h f hf).1 (by decide), Nat.le_trans (h f hf).2 (by decide)⟩
end Go.Proofs.YtncegikmpapldaaGreatDoor

