/- Walks: storage, by the program: chains made of any storage, rows told. -/
import Derived.Test.YtbhnjnoblkfckaaStF
import Derived.Test.YtbhnjnoblkfckaaStEl
namespace Go.Proofs.Ytbhnjnoblkfckaa
open Go.RowKit Go.Maps

theorem Chn.lower {w : World} {c mb B N B' : Nat} {L : List (Nat × En)} (h : Chn w c mb B N L) (hb : B' ≤ B) : Chn w c mb B' N L :=
  ⟨h.head, h.links, h.nodup, fun x hx => ⟨Nat.le_trans hb (h.far x hx).1, (h.far x hx).2⟩, ⟨Nat.le_trans hb h.low.1, Nat.le_trans hb h.low.2.1, h.low.2.2⟩, h.map, h.ok⟩
theorem Chn.grown {w w' : World} {c mb B N : Nat} {L : List (Nat × En)} {row : Option Nat} (h : Chn w c mb B N L) (hg : w.grownBy w' row) (hr : ∀ j, row = some j → ¬ Cs c mb L j) : Chn w' c mb B N L :=
  h.keep (S := fun j => row = some j) (only_of_grown hg fun _ h => h) hr
/-- A chain stays while what is no cells turns, above its map. -/
theorem chn_turned {X Y : World} {c mb B N B0 : Nat} {L : List (Nat × En)} {row : Option Nat} (h : Chn X c mb B N L) (hg : X.grownBy Y row) (hmb : mb < B0) (hr : ∀ r, row = some r → B0 ≤ r ∧ ∃ o : Obj, X.heap[r]? = some o ∧ o.isCells = false) : Chn Y c mb B N L :=
  h.grown hg fun j hj hc => by
    obtain ⟨h1, o, ho, hno⟩ := hr j hj
    rcases hc with rfl | rfl | hc
    · rw [h.head] at ho; cases ho; cases hno
    · omega
    · obtain ⟨x, hx, rfl⟩ := List.mem_map.1 hc
      obtain ⟨dom, ah, nx, tw, hM, _, hd⟩ := h.links
      rw [hM _ _ (hd x hx)] at ho; cases ho; cases hno
theorem cs_less {c mb j b : Nat} {e : En} {A R : List (Nat × En)} (h : Cs c mb (A ++ R) j) : Cs c mb (A ++ (b, e) :: R) j := by
  rcases h with h | h | h
  · exact .inl h
  · exact .inr (.inl h)
  · refine .inr (.inr ?_)
    simp only [List.map_append, List.map_cons, List.mem_append, List.mem_cons] at h ⊢
    rcases h with h | h <;> simp [h]
theorem entries_any (v : Value) (L : List En) (w : World) (hR : ERow w v L) (hE : EnsOk 1048576 L) (hn : L.length ≤ 2000000) :
    Calls Try.prog 11 #[.agg #[v]] w fun e' w' => ∃ c mb M, e' = .returned (.pointer (some ⟨c, 0, none⟩)) ∧ Chn w' c mb w.heap.size L.length M ∧ M.map (·.2) = L ∧ Below w.heap.size w w' :=
  (entries_of v L w hR hE hn).mono fun _ _ ⟨c, mb, M, h1, h2, h3, h4⟩ => ⟨c, mb, M, h1, h2.lower (Nat.le_succ _), h3, ((Below.refl _ _).alloc (Nat.le_refl _) _).trans (h4.mono (Nat.le_succ _))⟩
theorem outE_sub (L : List En) (p : ByteArray) (m : Int) : ∀ e ∈ outE L p m, e ∈ L := fun _ he => List.mem_of_mem_eraseP he
theorem outE_len (L : List En) (p : ByteArray) (m : Int) : (outE L p m).length ≤ L.length := List.length_eraseP_le
theorem own_lowB {w : World} {B B' : Nat} {e : TypeId} {size : Nat} {v : Value} {n : Nat} {xs : List Value} (h : w.ownsRow B e size v n xs) (hb : B' ≤ B) : w.ownsRow B' e size v n xs := by
  obtain ⟨h1, h2⟩ := h
  refine ⟨h1, ?_⟩
  rcases h2 with h2 | ⟨g, cap, cur, r1, r2, r3⟩
  · exact .inl h2
  · exact .inr ⟨g, cap, cur, r1, Nat.le_trans hb r2, r3⟩
/-- A box told a row that the call owns. -/
theorem told_row {w : World} {g B n : Nat} {t e : TypeId} {u v : Value} {size : Nat} {xs : List Value} (hb : Boxed w g t u) (hte : t ≠ e) (ho : w.ownsRow B e size v n xs) : Boxed (w.setCell ⟨g, 0, none⟩ v) g t v ∧ (w.setCell ⟨g, 0, none⟩ v).ownsRow B e size v n xs :=
  ⟨hb.set v, ho.kept (grownBy_setCell' w g v) (.inr (hb.not_row hte ho).symm)⟩
theorem own_slice {w : World} {B n : Nat} {e : TypeId} {v : Value} {size : Nat} {xs : List Value} (ho : w.ownsRow B e size v n xs) : ∃ a c, v = .slice a n c := by
  rcases ho.2 with ⟨rfl, h0⟩ | ⟨g, cap, _, rfl, _⟩
  · exact ⟨none, 0, by rw [h0]⟩
  · exact ⟨_, _, rfl⟩

/-- Storage handed back: a row of the call's own. -/
def SRet (w : World) (L : List En) (e' : Ending) (w' : World) : Prop := ∃ v, e' = .returned (.agg #[v]) ∧ w'.ownsRow w.heap.size 37 9 v L.length (ecells L) ∧ Below w.heap.size w w'

end Go.Proofs.Ytbhnjnoblkfckaa
