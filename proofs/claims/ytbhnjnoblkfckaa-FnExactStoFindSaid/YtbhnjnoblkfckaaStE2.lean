/- Storage: rows of entries; no function of the program. -/
import Derived.Test.YtbhnjnoblkfckaaStB
import Derived.Test.YtbhnjnoblkfckaaShelf
namespace Go.Proofs.Ytbhnjnoblkfckaa
open Go.RowKit Go.Maps

/-- An entry in cells o .. o + 8 of block b. -/
structure EAt (w : World) (b o : Nat) (e : En) : Prop where
  c0 : w.cell? ⟨b, o, none⟩ = some (.string e.place)
  c1 : w.cell? ⟨b, o + 1, none⟩ = some (.int .i64 e.mask)
  c2 : w.cell? ⟨b, o + 2, none⟩ = some (.int .i64 e.rsp.code)
  c3 : w.cell? ⟨b, o + 3, none⟩ = some (.int .i64 e.rsp.mx)
  c4 : w.cell? ⟨b, o + 4, none⟩ = some (.bool e.rsp.hide)
  c5 : w.cell? ⟨b, o + 5, none⟩ = some (.string e.rsp.tag)
  c6 : w.cell? ⟨b, o + 6, none⟩ = some (.int .i64 e.rsp.cod)
  c7 : w.cell? ⟨b, o + 7, none⟩ = some (.string e.rsp.body)
  c8 : w.cell? ⟨b, o + 8, none⟩ = some (.int .i64 e.tm)
theorem EAt.all {w : World} {b o : Nat} {e : En} (h : ∀ i x, (enL e)[i]? = some x → w.cell? ⟨b, o + i, none⟩ = some x) : EAt w b o e :=
  ⟨h 0 _ rfl, h 1 _ rfl, h 2 _ rfl, h 3 _ rfl, h 4 _ rfl, h 5 _ rfl, h 6 _ rfl, h 7 _ rfl, h 8 _ rfl⟩
theorem EAt.keep {w w' : World} {b o : Nat} {e : En} (h : EAt w b o e) (hk : w'.heap[b]? = w.heap[b]?) : EAt w' b o e := by
  have hc : ∀ k, w'.cell? ⟨b, k, none⟩ = w.cell? ⟨b, k, none⟩ := fun k => by simp [World.cell?, hk]
  exact ⟨(hc _).trans h.c0, (hc _).trans h.c1, (hc _).trans h.c2, (hc _).trans h.c3, (hc _).trans h.c4, (hc _).trans h.c5, (hc _).trans h.c6, (hc _).trans h.c7, (hc _).trans h.c8⟩
def ERow (w : World) (v : Value) (L : List En) : Prop :=
  ∃ a c, v = .slice a L.length c ∧ L.length ≤ c ∧ c ≤ maxLen ∧ ∀ j e, L[j]? = some e → ∃ b o, a = some ⟨b, o, none⟩ ∧ b < w.heap.size ∧ EAt w b (o + j * 9) e
theorem ERow.keep {w w' : World} {v : Value} {L : List En} (h : ERow w v L) (hs : w.heap.size ≤ w'.heap.size) (hk : ∀ b, v.ownBlock = some b → b < w.heap.size → w'.heap[b]? = w.heap[b]?) : ERow w' v L := by
  obtain ⟨a, c, rfl, h1, h2, h3⟩ := h
  refine ⟨a, c, rfl, h1, h2, fun j e hj => ?_⟩
  obtain ⟨b, o, rfl, hb, he⟩ := h3 j e hj
  exact ⟨b, o, rfl, by omega, he.keep (hk b rfl hb)⟩
theorem ERow.below {w w' : World} {v : Value} {L : List En} (h : ERow w v L) {B : Nat} (hB : w.heap.size ≤ B) (hb : Below B w w') : ERow w' v L := h.keep hb.size fun b _ hl => hb.block b (by omega)
theorem erow_nil (w : World) : ERow w (.slice none 0 0) [] := ⟨none, 0, rfl, Nat.le_refl _, Nat.zero_le _, fun j e h => by simp at h⟩

def ecells (L : List En) : List Value := L.flatMap enL
theorem ecells_app (L : List En) (e : En) : ecells (L ++ [e]) = ecells L ++ enL e := by simp [ecells]
theorem ecells_len (L : List En) : (ecells L).length = L.length * 9 := by
  induction L with
  | nil => rfl
  | cons e L ih => simp only [ecells, List.flatMap_cons, List.length_append, List.length_cons] at ih ⊢; rw [ih]; simp [enL]; omega
theorem ecells_at : ∀ {L : List En} {j i : Nat} {e : En} {x : Value}, L[j]? = some e → (enL e)[i]? = some x → (ecells L)[j * 9 + i]? = some x
  | [], j, i, e, x, h, _ => by simp at h
  | a :: L, 0, i, e, x, h, hx => by
    have : a = e := by simpa using h
    subst this
    have hi : i < (enL a).length := (List.getElem?_eq_some_iff.1 hx).1
    show (enL a ++ ecells L)[0 * 9 + i]? = some x
    rw [List.getElem?_append_left (by omega), show 0 * 9 + i = i from by omega]; exact hx
  | a :: L, j + 1, i, e, x, h, hx => by
    have h' : L[j]? = some e := by simpa using h
    have ih := ecells_at h' hx
    show (enL a ++ ecells L)[(j + 1) * 9 + i]? = some x
    have hl : (enL a).length = 9 := rfl
    rw [List.getElem?_append_right (by omega), hl, show (j + 1) * 9 + i - 9 = j * 9 + i from by omega]; exact ih
theorem add0 (b k : Nat) : (⟨b, 0, none⟩ : Addr).add k = ⟨b, k, none⟩ := by unfold Addr.add; split <;> simp_all
theorem erow_of_own {w : World} {B : Nat} {T : TypeId} {v : Value} {L : List En} (h : w.ownsRow B T 9 v L.length (ecells L)) : ERow w v L := by
  rcases h.2 with ⟨rfl, h0⟩ | ⟨b, cap, cur, rfl, hb, hh, hn, hm, _, _⟩
  · have : L = [] := List.eq_nil_of_length_eq_zero h0
    subst this
    exact erow_nil w
  · refine ⟨_, cap, rfl, hn, hm, fun j e hj => ⟨b, 0, rfl, (Array.getElem?_eq_some_iff.1 hh).1, EAt.all fun i x hx => ?_⟩⟩
    have := h.cells (g := b) rfl _ _ (ecells_at hj hx)
    rw [add0] at this
    rw [Nat.zero_add]; exact this
theorem one_box {w : World} {b : Nat} {x : Value} {T : TypeId} (h : w.heap[b]? = some (.cells #[x] T (0, 0))) : w.cell? ⟨b, 0, none⟩ = some x ∧ w.frozen? ⟨b, 0, none⟩ = false := by
  constructor
  · simp [World.cell?, h]
  · simp [World.frozen?, h]
theorem chn_made (w : World) (v : Value) (T : TypeId) : Chn (((w.alloc (.cells #[v] T)).alloc (.map #[] 0)).alloc (.cells #[.pointer none, .map (some (w.heap.size + 1))] 44)) (w.heap.size + 1 + 1) (w.heap.size + 1) (w.heap.size + 1) 0 [] := by
  have h0 := World.ownsMap_made (w.alloc (.cells #[v] T)) Try.prog 46 lkElem
  rw [World.size_alloc] at h0
  refine ⟨?_, ⟨fun _ => none, fun _ => none, fun _ => none, fun _ => none, (fun b e h => nomatch h), trivial, (fun x hx => nomatch hx)⟩, List.nodup_nil, (fun x hx => nomatch hx), ⟨by omega, Nat.le_refl _, by omega⟩, ⟨_, h0.alloc _, mapk_empty⟩, (fun x hx => nomatch hx)⟩
  have := heap_alloc_new ((w.alloc (.cells #[v] T)).alloc (.map #[] 0)) (.cells #[.pointer none, .map (some (w.heap.size + 1))] 44)
  rw [World.size_alloc, World.size_alloc] at this
  exact this
theorem Try.infoEn : (Try.prog.info? 37).map (fun i => (i.zero, i.size, i.bytes)) = some (some (.agg #[.string ⟨#[]⟩, .int .i64 0, .int .i64 0, .int .i64 0, .bool false, .string ⟨#[]⟩, .int .i64 0, .string ⟨#[]⟩, .int .i64 0]), 9, 96) := by kernel_rfl
end Go.Proofs.Ytbhnjnoblkfckaa
