import Derived.Test.YtbhnjnoblkfckaaGreatDoorGZ12
import Derived.Test.YtbhnjnoblkfckaaGreatDoorShelf
import Derived.Test.YtbhnjnoblkfckaaGreatDoorGZ10
import Derived.Test.YtbhnjnoblkfckaaGreatDoorGZ00
import Derived.RangeFuncNested
import Derived.RangeFuncBound
import Derived.RangeFuncCalls
import Derived.RangeFuncLeaves
import Derived.Shelf.Abstract
import Derived.Shelf.RegionOpen
import Derived.OwnWalkIn
import Derived.TacticsInMore
import Derived.LoopNIn
import Derived.LoopIn
import Derived.RegionTactic
import Derived.ChangeAlike
import Derived.Deep.RegionLaw
import Derived.Deep.LoopGhost
-- from XStE2
/- Storage: rows of entries; no function of the program. -/
namespace Go.Proofs.YtbhnjnoblkfckaaGreatDoor
open Go.RowKit Go.Maps

/-- An entry in cells o .. o + 8 of block b. -/
structure EAt (w : World) (b o : Nat) (e : En) : Prop where
  c0 : w.cell? ⟨b, o, none⟩ = some (.string e.place)
  c1 : w.cell? ⟨b, o + 1, none⟩ = some (.int .i64 e.mask)
  c2 : w.cell? ⟨b, o + 2, none⟩ = some (.int .i64 e.rsp.code)
  c3 : w.cell? ⟨b, o + 3, none⟩ = some (.int .i64 e.rsp.mx)
  c4 : w.cell? ⟨b, o + 4, none⟩ = some (.bool e.rsp.hide)
  c5 : w.cell? ⟨b, o + 5, none⟩ = some (.string e.rsp.tag)
  c6 : w.cell? ⟨b, o + 6, none⟩ = some (.int .i64 e.rsp.cod)
  c7 : w.cell? ⟨b, o + 7, none⟩ = some (.string e.rsp.body)
  c8 : w.cell? ⟨b, o + 8, none⟩ = some (.int .i64 e.tm)
theorem EAt.all {w : World} {b o : Nat} {e : En} (h : ∀ i x, (enL e)[i]? = some x → w.cell? ⟨b, o + i, none⟩ = some x) : EAt w b o e :=
  ⟨h 0 _ rfl, h 1 _ rfl, h 2 _ rfl, h 3 _ rfl, h 4 _ rfl, h 5 _ rfl, h 6 _ rfl, h 7 _ rfl, h 8 _ rfl⟩
theorem EAt.keep {w w' : World} {b o : Nat} {e : En} (h : EAt w b o e) (hk : w'.heap[b]? = w.heap[b]?) : EAt w' b o e := by
  have hc : ∀ k, w'.cell? ⟨b, k, none⟩ = w.cell? ⟨b, k, none⟩ := fun k => by simp [World.cell?, hk]
  exact ⟨(hc _).trans h.c0, (hc _).trans h.c1, (hc _).trans h.c2, (hc _).trans h.c3, (hc _).trans h.c4, (hc _).trans h.c5, (hc _).trans h.c6, (hc _).trans h.c7, (hc _).trans h.c8⟩
def ERow (w : World) (v : Value) (L : List En) : Prop :=
  ∃ a c, v = .slice a L.length c ∧ L.length ≤ c ∧ c ≤ maxLen ∧ ∀ j e, L[j]? = some e → ∃ b o, a = some ⟨b, o, none⟩ ∧ b < w.heap.size ∧ EAt w b (o + j * 9) e
theorem ERow.keep {w w' : World} {v : Value} {L : List En} (h : ERow w v L) (hs : w.heap.size ≤ w'.heap.size) (hk : ∀ b, v.ownBlock = some b → b < w.heap.size → w'.heap[b]? = w.heap[b]?) : ERow w' v L := by
  obtain ⟨a, c, rfl, h1, h2, h3⟩ := h
  refine ⟨a, c, rfl, h1, h2, fun j e hj => ?_⟩
  obtain ⟨b, o, rfl, hb, he⟩ := h3 j e hj
  exact ⟨b, o, rfl, by omega, he.keep (hk b rfl hb)⟩
theorem ERow.below {w w' : World} {v : Value} {L : List En} (h : ERow w v L) {B : Nat} (hB : w.heap.size ≤ B) (hb : Below B w w') : ERow w' v L := h.keep hb.size fun b _ hl => hb.block b (by omega)
theorem erow_nil (w : World) : ERow w (.slice none 0 0) [] := ⟨none, 0, rfl, Nat.le_refl _, Nat.zero_le _, fun j e h => by simp at h⟩

def ecells (L : List En) : List Value := L.flatMap enL
theorem ecells_app (L : List En) (e : En) : ecells (L ++ [e]) = ecells L ++ enL e := by simp [ecells]
theorem ecells_len (L : List En) : (ecells L).length = L.length * 9 := by
  induction L with
  | nil => rfl
  | cons e L ih => simp only [ecells, List.flatMap_cons, List.length_append, List.length_cons] at ih ⊢; rw [ih]; simp [enL]; omega
theorem ecells_at : ∀ {L : List En} {j i : Nat} {e : En} {x : Value}, L[j]? = some e → (enL e)[i]? = some x → (ecells L)[j * 9 + i]? = some x
  | [], j, i, e, x, h, _ => by simp at h
  | a :: L, 0, i, e, x, h, hx => by
    have : a = e := by simpa using h
    subst this
    have hi : i < (enL a).length := (List.getElem?_eq_some_iff.1 hx).1
    show (enL a ++ ecells L)[0 * 9 + i]? = some x
    rw [List.getElem?_append_left (by omega), show 0 * 9 + i = i from by omega]; exact hx
  | a :: L, j + 1, i, e, x, h, hx => by
    have h' : L[j]? = some e := by simpa using h
    have ih := ecells_at h' hx
    show (enL a ++ ecells L)[(j + 1) * 9 + i]? = some x
    have hl : (enL a).length = 9 := rfl
    rw [List.getElem?_append_right (by omega), hl, show (j + 1) * 9 + i - 9 = j * 9 + i from by omega]; exact ih
theorem add0 (b k : Nat) : (⟨b, 0, none⟩ : Addr).add k = ⟨b, k, none⟩ := by unfold Addr.add; split <;> simp_all
theorem erow_of_own {w : World} {B : Nat} {T : TypeId} {v : Value} {L : List En} (h : w.ownsRow B T 9 v L.length (ecells L)) : ERow w v L := by
  rcases h.2 with ⟨rfl, h0⟩ | ⟨b, cap, cur, rfl, hb, hh, hn, hm, _, _⟩
  · have : L = [] := List.eq_nil_of_length_eq_zero h0
    subst this
    exact erow_nil w
  · refine ⟨_, cap, rfl, hn, hm, fun j e hj => ⟨b, 0, rfl, (Array.getElem?_eq_some_iff.1 hh).1, EAt.all fun i x hx => ?_⟩⟩
    have := h.cells (g := b) rfl _ _ (ecells_at hj hx)
    rw [add0] at this
    rw [Nat.zero_add]; exact this
theorem one_box {w : World} {b : Nat} {x : Value} {T : TypeId} (h : w.heap[b]? = some (.cells #[x] T (0, 0))) : w.cell? ⟨b, 0, none⟩ = some x ∧ w.frozen? ⟨b, 0, none⟩ = false := by
  constructor
  · simp [World.cell?, h]
  · simp [World.frozen?, h]
theorem chn_made (w : World) (v : Value) (T : TypeId) : Chn (((w.alloc (.cells #[v] T)).alloc (.map #[] 0)).alloc (.cells #[.pointer none, .map (some (w.heap.size + 1))] 77)) (w.heap.size + 1 + 1) (w.heap.size + 1) (w.heap.size + 1) 0 [] := by
  have h0 := World.ownsMap_made (w.alloc (.cells #[v] T)) Tryz.prog 86 lkElem
  rw [World.size_alloc] at h0
  refine ⟨?_, ⟨fun _ => none, fun _ => none, fun _ => none, fun _ => none, (fun b e h => nomatch h), trivial, (fun x hx => nomatch hx)⟩, List.nodup_nil, (fun x hx => nomatch hx), ⟨by omega, Nat.le_refl _, by omega⟩, ⟨_, h0.alloc _, mapk_empty⟩, (fun x hx => nomatch hx)⟩
  have := heap_alloc_new ((w.alloc (.cells #[v] T)).alloc (.map #[] 0)) (.cells #[.pointer none, .map (some (w.heap.size + 1))] 77)
  rw [World.size_alloc, World.size_alloc] at this
  exact this
theorem Tryz.infoEn : (Tryz.prog.info? 48).map (fun i => (i.zero, i.size, i.bytes)) = some (some (.agg #[.string ⟨#[]⟩, .int .i64 0, .int .i64 0, .int .i64 0, .bool false, .string ⟨#[]⟩, .int .i64 0, .string ⟨#[]⟩, .int .i64 0]), 9, 96) := by kernel_rfl
end Go.Proofs.YtbhnjnoblkfckaaGreatDoor

-- from XStF
/- Walks: links, by the program: a chain made of storage. -/
namespace Go.Proofs.YtbhnjnoblkfckaaGreatDoor
open Go.RowKit Go.Maps

set_option maxRecDepth 100000 in
set_option maxHeartbeats 1600000 in
theorem entries_of (v : Value) (L : List En) (w : World) (hR : ERow w v L) (hE : EnsOk 1048576 L) (hn : L.length ≤ 2000000) :
    Calls Tryz.prog 45 #[.agg #[v]] w fun e' w' => ∃ c mb M, e' = .returned (.pointer (some ⟨c, 0, none⟩)) ∧ Chn w' c mb (w.heap.size + 1) L.length M ∧ M.map (·.2) = L ∧ Below (w.heap.size + 1) (w.alloc (.cells #[v] 35)) w' := by
  have hmm := @run_makeMap Tryz.prog
  have hm0 := chn_made w v 35
  have hb0 : Below (w.heap.size + 1) (w.alloc (.cells #[v] 35)) (((w.alloc (.cells #[v] 35)).alloc (.map #[] 0)).alloc (.cells #[.pointer none, .map (some (w.heap.size + 1))] 77)) :=
    ((Below.refl _ _).alloc (by simp) _).alloc (by simp) _
  have hx0 : (w.alloc (.cells #[v] 35)).heap[w.heap.size]? = some (.cells #[v] 35 (0, 0)) := heap_alloc_new w _
  obtain ⟨a, c, rfl, h1, h2, h3⟩ := hR
  unfold maxLen at h2
  have HX := Lib.hid hx0
  have H3 := Lib.hid h3
  have HE := Lib.hid hE
  clear h3 hE hx0
  go_enter Tryz.func45, Tryz.ntmps45
  go_wp2
  clear hmm
  go_loopw [4] (fun i wr => ∃ (k : Nat) (M : List (Nat × En)), k ≤ L.length ∧ i = .int .i64 ((k : Int) - 1) ∧ Chn wr (w.heap.size + 1 + 1) (w.heap.size + 1) (w.heap.size + 1) (L.length - k) M ∧ M.map (·.2) = L.drop k ∧ Below (w.heap.size + 1) (w.alloc (.cells #[.slice a L.length c] 35)) wr)
    (fun i _ => (intOf i + 1).toNat)
  case atStart => exact ⟨L.length, [], Nat.le_refl _, rfl, by rw [Nat.sub_self]; exact hm0, by simp, hb0⟩
  case round =>
    obtain ⟨k, M, hk, rfl, hC, hM, hB⟩ := hrel
    cases k with
    | zero =>
      go_wp2
      go_ret
      exact ⟨_, _, M, rfl, hC, by rw [hM]; rfl, hB⟩
    | succ j =>
      have ej : (((j + 1 : Nat) : Int) - 1) = (j : Int) := by omega
      rw [ej]
      obtain ⟨e, hg⟩ : ∃ e, L[j]? = some e := ⟨_, List.getElem?_eq_getElem (by omega)⟩
      obtain ⟨b, o, rfl, hb, hat⟩ := H3.out j e hg
      have he := HE.out e (List.mem_of_getElem? hg)
      have HMj : Hid (L.drop j = e :: M.map (·.2)) := Lib.hid (by
        obtain ⟨hlt, rfl⟩ := List.getElem?_eq_some_iff.1 hg
        rw [hM]; exact List.drop_eq_getElem_cons hlt)
      have HX2 : Hid (∀ W, Below wr.heap.size wr W → (W.cell? ⟨w.heap.size, 0, none⟩ = some (.slice (some ⟨b, o, none⟩) L.length c) ∧ W.frozen? ⟨w.heap.size, 0, none⟩ = false) ∧ EAt W b (o + j * 9) e) := Lib.hid fun W hW => by
        have h1 : ∀ k, k < w.heap.size + 1 → W.heap[k]? = (w.alloc (.cells #[.slice (some ⟨b, o, none⟩) L.length c] 35)).heap[k]? := fun k hk => (hW.block k (by have := hB.size; simp at this; omega)).trans (hB.block k hk)
        refine ⟨one_box ((h1 _ (by omega)).trans HX.out), hat.keep ?_⟩
        rw [h1 b (by omega), Below.heap_alloc _ _ _ hb]
      have HKey := Lib.hid (fun W => key_of e W)
      have HPush : Hid (∀ W, Below wr.heap.size wr W → Calls Tryz.prog 54 #[.pointer (some ⟨w.heap.size + 1 + 1, 0, none⟩), .agg #[.string e.place, .int .i64 e.mask], .agg #[.string e.place, .int .i64 e.mask, .int .i64 e.rsp.code, .int .i64 e.rsp.mx, .bool e.rsp.hide, .string e.rsp.tag, .int .i64 e.rsp.cod, .string e.rsp.body, .int .i64 e.tm]] W (PushPost (w.heap.size + 1 + 1) (w.heap.size + 1) (w.heap.size + 1) (L.length - (j + 1)) M e W)) := Lib.hid fun W hW =>
        push_any _ _ _ _ M e W (hC.below hW) he (by unfold maxLen; omega)
      have HFin : Hid (∀ W w8 bl, Below wr.heap.size wr W → Chn w8 (w.heap.size + 1 + 1) (w.heap.size + 1) (w.heap.size + 1) (L.length - (j + 1) + 1) ((bl, e) :: M) → Only (Cs (w.heap.size + 1 + 1) (w.heap.size + 1) M) W w8 → Chn w8 (w.heap.size + 1 + 1) (w.heap.size + 1) (w.heap.size + 1) (L.length - j) ((bl, e) :: M) ∧ Below (w.heap.size + 1) (w.alloc (.cells #[.slice (some ⟨b, o, none⟩) L.length c] 35)) w8) := Lib.hid fun W w8 bl h1 h2 h3 => by
        refine ⟨by rw [show L.length - j = L.length - (j + 1) + 1 from by omega]; exact h2, ?_⟩
        have hs := hB.size
        simp at hs
        exact (hB.trans (h1.mono (by omega))).trans (h3.below (by have := h1.size; omega) fun q hq => (hC.cs hq).1)
      have hjl : (j : Int) < (L.length : Int) := by omega
      have hjc : (j : Int) < (c : Int) := by omega
      unfold enV keV at HKey
      clear hm0 hb0 hC hM hB hat hg he ej hk
      go_wp2_with fail
      refine wp_region_last (by kernel_rfl) 12 (by kernel_rfl) (by kernel_rfl) (by kernel_rfl)
        (fun z => { tmps := #[.agg #[.slice (some ⟨b, o, none⟩) L.length c], .pointer (some ⟨w.heap.size, 0, none⟩), .pointer none, .pointer (some ⟨w.heap.size + 1 + 1, 0, none⟩), .int .i64 (j : Int), .map (some (w.heap.size + 1)), .agg #[.pointer none, .map (some (w.heap.size + 1))], .pointer (some ⟨w.heap.size + 1 + 1, 0, none⟩), .pointer (some ⟨w.heap.size, 0, none⟩), .slice (some ⟨b, o, none⟩) L.length c, .int .i64 (L.length : Int), .int .i64 ((L.length : Int) - 1), .int .i64 (j : Int), .bool true, u14, u15, z 0, z 1, z 2, z 3, z 4, z 5, z 6, z 7, z 8, z 9, z 10, z 11, u28, undef], defers := [] })
        (fun _ W => Below wr.heap.size wr W)
        (fun i xv _ => xv = ([.pointer (some ⟨w.heap.size + 1 + 1, 0, none⟩), .pointer (some ⟨w.heap.size, 0, none⟩), .slice (some ⟨b, o, none⟩) L.length c, .int .i64 (j : Int), .pointer (some ⟨b, o + j * 9, none⟩), .agg #[.string e.place, .int .i64 e.mask, .int .i64 e.rsp.code, .int .i64 e.rsp.mx, .bool e.rsp.hide, .string e.rsp.tag, .int .i64 e.rsp.cod, .string e.rsp.body, .int .i64 e.tm], .agg #[.string e.place, .int .i64 e.mask], .pointer (some ⟨w.heap.size, 0, none⟩), .slice (some ⟨b, o, none⟩) L.length c, .int .i64 (j : Int), .pointer (some ⟨b, o + j * 9, none⟩), .agg #[.string e.place, .int .i64 e.mask, .int .i64 e.rsp.code, .int .i64 e.rsp.mx, .bool e.rsp.hide, .string e.rsp.tag, .int .i64 e.rsp.cod, .string e.rsp.body, .int .i64 e.tm]] : List Value).getD i undef)
        (fun _ _ => True) (fun i => [u16, u17, u18, u19, u20, u21, u22, u23, u24, u25, u26, u27].getD i undef) (Below.refl _ _).drew
        (fun _ _ _ _ _ h _ => h) ?_ ?_
      · intro i hi z w7 kk hkk hC hdp
        match i, hi with
        | 0, _ =>
          refine wpOp_step rfl (fun K hK => ?_)
          clear hdp
          go_simp
          exact hK _ _ ⟨.pointer (some ⟨w.heap.size + 1 + 1, 0, none⟩), rfl, rfl, trivial, hC⟩
        | 1, _ =>
          refine wpOp_step rfl (fun K hK => ?_)
          clear hdp
          go_simp
          exact hK _ _ ⟨.pointer (some ⟨w.heap.size, 0, none⟩), rfl, rfl, trivial, hC⟩
        | 2, _ =>
          obtain ⟨q0, -⟩ := (HX2.out w7 hC).1
          have e1 : z 1 = .pointer (some ⟨w.heap.size, 0, none⟩) := hdp 1 (dep_of (by kernel_rfl))
          refine wpOp_step rfl (fun K hK => ?_)
          clear hdp
          go_simp
          exact hK _ _ ⟨.slice (some ⟨b, o, none⟩) L.length c, by simp [upd, e1], rfl, trivial, hC⟩
        | 3, _ =>
          refine wpOp_step rfl (fun K hK => ?_)
          clear hdp
          go_simp
          exact hK _ _ ⟨.int .i64 (j : Int), rfl, rfl, trivial, hC⟩
        | 4, _ =>
          have e2 : z 2 = .slice (some ⟨b, o, none⟩) L.length c := hdp 2 (dep_of (by kernel_rfl))
          have e3 : z 3 = .int .i64 (j : Int) := hdp 3 (dep_of (by kernel_rfl))
          refine wpOp_step rfl (fun K hK => ?_)
          clear hdp
          go_simp
          exact hK _ _ ⟨.pointer (some ⟨b, o + j * 9, none⟩), by simp [upd, e2, e3], rfl, trivial, hC⟩
        | 5, _ =>
          obtain ⟨x0, x1, x2, x3, x4, x5, x6, x7, x8⟩ := (HX2.out w7 hC).2
          have e4 : z 4 = .pointer (some ⟨b, o + j * 9, none⟩) := hdp 4 (dep_of (by kernel_rfl))
          refine wpOp_step rfl (fun K hK => ?_)
          clear hdp
          go_simp
          exact hK _ _ ⟨.agg #[.string e.place, .int .i64 e.mask, .int .i64 e.rsp.code, .int .i64 e.rsp.mx, .bool e.rsp.hide, .string e.rsp.tag, .int .i64 e.rsp.cod, .string e.rsp.body, .int .i64 e.tm], by simp [upd, e4], rfl, trivial, hC⟩
        | 6, _ =>
          have e5 : z 5 = .agg #[.string e.place, .int .i64 e.mask, .int .i64 e.rsp.code, .int .i64 e.rsp.mx, .bool e.rsp.hide, .string e.rsp.tag, .int .i64 e.rsp.cod, .string e.rsp.body, .int .i64 e.tm] := hdp 5 (dep_of (by kernel_rfl))
          have hT := HKey.out w7
          refine wpOp_step rfl (fun K hK => ?_)
          clear hdp
          go_simp
          refine hT.mono ?_
          rintro e w8 ⟨rfl, hb8⟩
          exact hK _ _ ⟨.agg #[.string e.place, .int .i64 e.mask], by simp [upd, e5], rfl, trivial, hC.trans (hb8.mono hC.size)⟩
        | 7, _ =>
          refine wpOp_step rfl (fun K hK => ?_)
          clear hdp
          go_simp
          exact hK _ _ ⟨.pointer (some ⟨w.heap.size, 0, none⟩), rfl, rfl, trivial, hC⟩
        | 8, _ =>
          obtain ⟨q0, -⟩ := (HX2.out w7 hC).1
          have e7 : z 7 = .pointer (some ⟨w.heap.size, 0, none⟩) := hdp 7 (dep_of (by kernel_rfl))
          refine wpOp_step rfl (fun K hK => ?_)
          clear hdp
          go_simp
          exact hK _ _ ⟨.slice (some ⟨b, o, none⟩) L.length c, by simp [upd, e7], rfl, trivial, hC⟩
        | 9, _ =>
          refine wpOp_step rfl (fun K hK => ?_)
          clear hdp
          go_simp
          exact hK _ _ ⟨.int .i64 (j : Int), rfl, rfl, trivial, hC⟩
        | 10, _ =>
          have e8 : z 8 = .slice (some ⟨b, o, none⟩) L.length c := hdp 8 (dep_of (by kernel_rfl))
          have e9 : z 9 = .int .i64 (j : Int) := hdp 9 (dep_of (by kernel_rfl))
          refine wpOp_step rfl (fun K hK => ?_)
          clear hdp
          go_simp
          exact hK _ _ ⟨.pointer (some ⟨b, o + j * 9, none⟩), by simp [upd, e8, e9], rfl, trivial, hC⟩
        | 11, _ =>
          obtain ⟨x0, x1, x2, x3, x4, x5, x6, x7, x8⟩ := (HX2.out w7 hC).2
          have e10 : z 10 = .pointer (some ⟨b, o + j * 9, none⟩) := hdp 10 (dep_of (by kernel_rfl))
          refine wpOp_step rfl (fun K hK => ?_)
          clear hdp
          go_simp
          exact hK _ _ ⟨.agg #[.string e.place, .int .i64 e.mask, .int .i64 e.rsp.code, .int .i64 e.rsp.mx, .bool e.rsp.hide, .string e.rsp.tag, .int .i64 e.rsp.cod, .string e.rsp.body, .int .i64 e.tm], by simp [upd, e10], rfl, trivial, hC⟩
        | n + 12, hn => exact absurd hn (by omega)
      · intro z w7 kk hkk hC hdp
        have e0 : z 0 = .pointer (some ⟨w.heap.size + 1 + 1, 0, none⟩) := hdp 0 (by decide)
        have e6 : z 6 = .agg #[.string e.place, .int .i64 e.mask] := hdp 6 (by decide)
        have e11 : z 11 = .agg #[.string e.place, .int .i64 e.mask, .int .i64 e.rsp.code, .int .i64 e.rsp.mx, .bool e.rsp.hide, .string e.rsp.tag, .int .i64 e.rsp.cod, .string e.rsp.body, .int .i64 e.tm] := hdp 11 (by decide)
        refine wpOp_step rfl (fun K hK => ?_)
        clear hdp
        go_simp
        refine (HPush.out w7 hC).mono ?_
        rintro e' w8 ⟨rfl, bl, hbl, hC8, hO8⟩
        have HP : Hid (Chn w8 (w.heap.size + 1 + 1) (w.heap.size + 1) (w.heap.size + 1) (L.length - j) ((bl, e) :: M) ∧ Below (w.heap.size + 1) (w.alloc (.cells #[.slice (some ⟨b, o, none⟩) L.length c] 35)) w8) := Lib.hid (HFin.out w7 w8 bl hC hC8 hO8)
        refine hK _ _ ?_
        clear hK K hC hC8 hO8 hbl e11
        go_wp2
        go_roundw
        case rel => exact ⟨j, (_, e) :: M, by omega, by go_num, HP.out.1, by rw [List.map_cons, HMj.out], HP.out.2⟩
        case measure => simp [intOf]
end Go.Proofs.YtbhnjnoblkfckaaGreatDoor

-- from XStR
/- A range over a function whose rounds are numbered: what the iterator reads between two rounds is told by the rounds' own invariant. No function of the program. -/
namespace Go.Proofs.YtbhnjnoblkfckaaGreatDoor
open Go.RowKit

variable {F : Fence} {n : Nat} {P : Program}

/-- The iterator's contract: it calls yield for 0, 1, .., as long as yield says so, at most N times, if at each of them (and behind the last one) the world is such that 'Fact k'. -/
def CntSeq (F : Fence) (n : Nat) (P : Program) (g : Nat) (lb : Array Value) (encs : Nat → Array Value) (Fact : Nat → World → Prop) (N : Nat) : Prop :=
  ∀ (l : Nat) (J Jx : Nat → World → Prop) (W : World), AbidesFrom W.heap.size J → AbidesFrom W.heap.size Jx → (∀ k W1, J k W1 → Fact k W1) →
    (∀ k W1, k < N → J k W1 → YieldAt F (n - 1) P l (encs k) W1 fun e W' => (e = .returned (.bool true) ∧ J (k + 1) W') ∨ (e = .returned (.bool false) ∧ Jx (k + 1) W')) →
    J 0 W → CallsIn F n P g (#[.func (.yield l) #[] #[]] ++ lb) W fun e W' => (∃ v, e = .returned v) ∧ (J N W' ∨ ∃ k, k ≤ N ∧ Jx k W')

/-- How a round is left. -/
def cntPost (B : Nat) (I : Nat → World → Prop) (Ix : Code → Nat → World → Prop) (k : Nat) (W : World) : Exit → Act → World → Prop
  | .normal, _, W' => KeepsFrom B W W' ∧ I k W'
  | .ret, _, W' => KeepsFrom B W W' ∧ Ix .ret k W'
  | .exit id, _, W' => KeepsFrom B W W' ∧ Ix (.exit id) k W'
  | .goto t, _, W' => KeepsFrom B W W' ∧ Ix (.goto t) k W'
  | .panic _, _, _ => False
  | .outgrown, _, _ => False

/-- The loop's record, and the mark for what its rounds defer, in the two blocks laid at its entry. -/
structure Books (B : Nat) (r : Loop) (W : World) : Prop where
  mark : W.heap[B]? = some (.deferred (some []))
  book : W.heap[B + 1]? = some (.loop r)
theorem Books.lt {B : Nat} {r : Loop} {W : World} (h : Books B r W) : B + 1 < W.heap.size := (Array.getElem?_eq_some_iff.1 h.book).1
theorem Books.put {B : Nat} {r : Loop} {W : World} (h : Books B r W) (r' : Loop) : Books B r' (W.putObj (B + 1) (.loop r')) :=
  ⟨(World.putObj_heap_other (by omega)).trans h.mark, World.putObj_heap_same h.lt⟩
theorem Books.keep {B : Nat} {r : Loop} {W W' : World} (h : Books B r W) (k : KeepsFrom B W W') : Books B r W' :=
  ⟨k.same _ _ (Nat.le_refl _) h.mark rfl, k.same _ _ (by omega) h.book rfl⟩
theorem Books.kept {B : Nat} {r : Loop} {W W' : World} {row : Option Nat} (h : Books B r W) (hg : W.grownBy W' row) (hr : ∀ j, row = some j → ∃ o : Obj, W.heap[j]? = some o ∧ o.isWalk = true) : Books B r W' :=
  ⟨(grownBy_keeps hg hr h.mark rfl).trans h.mark, (grownBy_keeps hg hr h.book rfl).trans h.book⟩

theorem wpIn_rangeCnt {g : Operand} {ps : Array Tmp} {assign body : Code} {Q : Exit → Act → World → Prop} {a : Act} {w : World}
    (hro : F.round = none) (h1 : 1 ≤ n) {gf : Nat} {lb : Array Value} (hg : a.eval g = .func (.func gf) #[] lb) (hFg : F.fn gf) (eg : ∀ args w, (callFunc gf args).run P w = .ok (.enter gf args) w)
    {encs : Nat → Array Value} {Fact : Nat → World → Prop} {N : Nat} (hseq : CntSeq F (n - 1) P gf lb encs Fact N) (hps : ∀ k, (encs k).size = ps.size)
    (I : Nat → World → Prop) (Ix : Code → Nat → World → Prop) (hI : OwnFrom w.heap.size I) (hIx : ∀ c, OwnFrom w.heap.size (Ix c)) (hF : ∀ k W, I k W → Fact k W) (h0 : I 0 w) (a₁ : Nat → Act)
    (hassign : ∀ (l k : Nat) (W : World) (K : Act → World → Prop), K (a₁ k) W →
      assign.wpIn (F.inRound l) (n - 1 - 1) P (Exit.then K (fun _ _ _ => False)) { tmps := (ps.zip (encs k)).foldl (fun t (p, v) => t.setIfInBounds p v) a.tmps, defers := [] } W)
    (hbody : ∀ (l k : Nat) (W : World), w.heap.size ≤ l → (∃ r, W.heap[l]? = some (.loop r)) → k < N → I k W → body.wpIn (F.inRound l) (n - 1 - 1) P (cntPost w.heap.size I Ix (k + 1) W) (a₁ k) W)
    (hdone : ∀ (D : Nat) (W : World), w.heap.size ≤ D → I N W → W.heap[D]? = some (.deferred (some [])) → Q .normal { a with defers := { target := .collected D, args := #[] } :: a.defers } W)
    (hstop : ∀ (D : Nat) (c : Code) (k : Nat) (W : World), w.heap.size ≤ D → k ≤ N → Ix c k W → W.heap[D]? = some (.deferred (some [])) → c.wpIn F n P Q { a with defers := { target := .collected D, args := #[] } :: a.defers } W) :
    (Code.rangeFunc g ps assign body).wpIn F n P Q a w := by
  refine wpIn_rangeFunc fun fn hfn => ?_
  rw [hro]
  generalize hB : w.heap.size = B at *
  let R : LoopState → Option Code → Loop := fun st pe => { state := st, pending := pe, fn, tmps := a.tmps, params := ps, assign, body, defers := B }
  have hW1 : Books B (R .ready none) ((w.alloc (.deferred (some []))).alloc (.loop (R .ready none))) := by
    have e1 := World.alloc_heap_new w (.deferred (some []))
    have e2 := World.alloc_heap_new (w.alloc (.deferred (some []))) (.loop (R .ready none))
    rw [hB] at e1
    rw [World.size_alloc, hB] at e2
    exact ⟨(Below.heap_alloc _ _ _ (by simp [hB])).trans e1, e2⟩
  have hI1 : I 0 ((w.alloc (.deferred (some []))).alloc (.loop (R .ready none))) := hI.alloc _ (hI.alloc _ h0)
  have hsz : ((w.alloc (.deferred (some []))).alloc (.loop (R .ready none))).heap.size = B + 2 := by simp [hB]
  have hent : (Instr.enterLoop fn a.tmps ps assign body none).run P w = .ok (B + 1, [{ target := .collected B, args := #[] }]) ((w.alloc (.deferred (some []))).alloc (.loop (R .ready none))) := by
    rw [← hB]
    have := run_enterLoop_outer (P := P) (w := w) fn a.tmps ps assign body
    simpa [R, hB] using this
  generalize (w.alloc (.deferred (some []))).alloc (.loop (R .ready none)) = W1 at *
  refine ⟨B + 1, _, W1, { target := .fn (.func gf) lb, args := #[.func (.yield (B + 1)) #[] #[]] }, W1, gf, #[.func (.yield (B + 1)) #[] #[]] ++ lb, W1, hent, ?_, ?_, ?_, fun _ => h1, ?_⟩
  · simp only [resolve, hg]
    simp [go_sem]
  · intro f' hf'
    simp [Target.leads] at hf'
    subst hf'; exact hFg
  · simp [invoke, go_sem, eg]
  have far : ∀ {A : World} {row : Option Nat}, (∀ r, row = some r → W1.heap.size ≤ r ∧ ∃ o : Obj, A.heap[r]? = some o ∧ o.isWalk = true) → ∀ r, row = some r → B ≤ r ∧ ∃ o : Obj, A.heap[r]? = some o ∧ o.isCells = false :=
    fun hr r e => by obtain ⟨q, o, ho, hw⟩ := hr r e; exact ⟨by omega, o, ho, Obj.not_cells_of_walk hw⟩
  refine (hseq (B + 1) (fun k W => I k W ∧ Books B (R .ready none) W) (fun k W => ∃ c, Ix c k W ∧ Books B (R .done (some c)) W) W1 ?_ ?_ (fun k W h => hF k W h.1) ?_ ⟨hI1, hW1⟩).mono ?_
  · exact fun k X Y row hs hg' hr => ⟨hI k X Y row hs.1 hg' (far hr), hs.2.kept hg' fun r e => (hr r e).2⟩
  · rintro k X Y row ⟨c, hc, hb⟩ hg' hr
    exact ⟨c, hIx c k X Y row hc hg' (far hr), hb.kept hg' fun r e => (hr r e).2⟩
  · rintro k W hlt ⟨hi, hb⟩
    refine ⟨fn, _, assign, body, run_yield (P := P) (args := encs k) hb.book (hps k), roundIn_of_wpIn hfn (hassign _ k W _ ⟨_, run_beginRound hb.book rfl, ?_⟩)⟩
    have hb2 := hb.put (R .busy none)
    refine wpIn_mono (hbody _ k _ (Nat.le_succ _) ⟨_, hb2.book⟩ hlt (hI.putObj _ hi (Nat.le_succ _) hb.book rfl)) ?_
    have leave : ∀ (jump : Option Code) (W3 : World), KeepsFrom B (W.putObj (B + 1) (.loop (R .busy none))) W3 →
        (Instr.endRound (B + 1) jump).run P W3 = .ok (.bool jump.isNone) (W3.putObj (B + 1) (.loop (R (if jump.isNone then .ready else .done) jump))) ∧ Books B (R .busy none) W3 := fun jump W3 hk =>
      ⟨run_endRound (P := P) jump (hb2.keep hk).book, hb2.keep hk⟩
    rintro e a3 W3 hp
    cases e with
    | normal =>
      obtain ⟨hr, hb3⟩ := leave none W3 hp.1
      exact ⟨_, _, hr, .inl ⟨rfl, hI.putObj _ hp.2 (Nat.le_succ _) hb3.book rfl, hb3.put _⟩⟩
    | ret =>
      obtain ⟨hr, hb3⟩ := leave (some .ret) W3 hp.1
      exact ⟨_, _, hr, .inr ⟨rfl, _, (hIx _).putObj _ hp.2 (Nat.le_succ _) hb3.book rfl, hb3.put _⟩⟩
    | exit id =>
      obtain ⟨hr, hb3⟩ := leave (some (.exit id)) W3 hp.1
      exact ⟨_, _, hr, .inr ⟨rfl, _, (hIx _).putObj _ hp.2 (Nat.le_succ _) hb3.book rfl, hb3.put _⟩⟩
    | goto t =>
      obtain ⟨hr, hb3⟩ := leave (some (.goto t)) W3 hp.1
      exact ⟨_, _, hr, .inr ⟨rfl, _, (hIx _).putObj _ hp.2 (Nat.le_succ _) hb3.book rfl, hb3.put _⟩⟩
    | panic ch => exact hp.elim
    | outgrown => exact hp.elim
  · rintro e W2 ⟨⟨v, rfl⟩, (⟨hi, hb⟩ | ⟨k, hk, c, hi, hb⟩)⟩
    · exact ⟨none, _, run_endLoop (P := P) hb.book (by simp [R]), hdone _ _ (Nat.le_refl _) (hI.putObj _ hi (Nat.le_succ _) hb.book rfl) ((World.putObj_heap_other (by omega)).trans hb.mark)⟩
    · exact ⟨some c, _, run_endLoop (P := P) hb.book (by simp [R]), hstop _ c k _ (Nat.le_refl _) hk ((hIx c).putObj _ hi (Nat.le_succ _) hb.book rfl) ((World.putObj_heap_other (by omega)).trans hb.mark)⟩
end Go.Proofs.YtbhnjnoblkfckaaGreatDoor

-- from XStEl
/- Walks: links, by the program: the iterator over all. -/
namespace Go.Proofs.YtbhnjnoblkfckaaGreatDoor
open Go.RowKit Go.Maps Go.Shelf
attribute [local go_sem] Oper.semAt_some

set_option maxHeartbeats 1000000 in
theorem links_in (n : Nat) (z : Option Addr) (w : World) :
    CallsIn Fence.wide n Tryz.prog 69 #[.pointer z] w fun e w' => e = .returned (.func (.func 96) #[] #[.pointer (some ⟨w.heap.size, 0, none⟩)]) ∧ w' = w.alloc (.cells #[.pointer z] 78) := by
  refine callsIn_wide.2 ?_
  have hmf : ∀ (fn : Fn) (first cap : Array Value) (w : World), (Instr.makeFunc fn first cap).run Tryz.prog w = .ok (.func fn first cap) w := fun _ _ _ _ => rfl
  go_enter Tryz.func69, Tryz.ntmps69
  go_wp2
  go_ret
  exact ⟨rfl, rfl⟩

/-- What the iterator reads ahead of round k. -/
def LkFact (ps : List Nat) (bx c k : Nat) (W : World) : Prop :=
  (k = 0 → W.cell? ⟨bx, 0, none⟩ = some (.pointer (some ⟨c, 0, none⟩)) ∧ W.cell? ⟨c, 0, none⟩ = some (ptrO ps[0]?)) ∧ ∀ j b, k = j + 1 → ps[j]? = some b → W.cell? ⟨b, 12, none⟩ = some (ptrO ps[j + 1]?)
def lkEnc (ps : List Nat) (k : Nat) : Array Value := #[.int .i64 (k : Int), ptrO ps[k]?]

set_option maxRecDepth 100000 in
set_option maxHeartbeats 2000000 in
theorem links_seq (n : Nat) (hn : 1 ≤ n) (ps : List Nat) (bx c : Nat) (hps : ps.length ≤ 4000000) :
    CntSeq Fence.wide n Tryz.prog 96 #[.pointer (some ⟨bx, 0, none⟩)] (lkEnc ps) (LkFact ps bx c) ps.length := by
  intro l J Jx W hJ hJx hFact hY h0
  have hro : Fence.wide.round = none := rfl
  refine callsIn_of_wp Tryz.func96 rfl trivial ?_ hro
  simp only [Tryz.ntmps96, List.size_toArray, List.length_cons, List.length_nil, Nat.reduceAdd, Nat.reduceSub, Array.replicate_succ, Array.replicate_zero, List.push_toArray, List.append_toArray, List.nil_append, List.cons_append]
  obtain ⟨c0, c1⟩ := (hFact 0 W h0).1 rfl
  unfold ptrO at c1
  have HFa := Lib.hid hFact
  have HY := Lib.hid hY
  clear hFact hY hJ hJx
  gi_wp2
  clear c0 c1
  gi_loopw [3, 4] (fun i p wr => ∃ k : Nat, k ≤ ps.length ∧ i = .int .i64 k ∧ p = .pointer (adO ps[k]?) ∧ J k wr)
    (fun i _ _ => ps.length - (intOf i).toNat)
  case atStart => exact ⟨0, Nat.zero_le _, rfl, rfl, h0⟩
  case round =>
    obtain ⟨k, hk, rfl, rfl, hJs⟩ := hrel
    by_cases hlt : k < ps.length
    · obtain ⟨b, hb⟩ : ∃ b, ps[k]? = some b := ⟨_, List.getElem?_eq_getElem hlt⟩
      obtain ⟨fn, tmps, assign, body, hy, hR⟩ := HY.out k wr hlt hJs
      unfold lkEnc at hy
      rw [hb] at hy ⊢
      replace hy : (Instr.yield l #[.int .i64 (k : Int), .pointer (some ⟨b, 0, none⟩)]).run Tryz.prog wr = .ok (.round l fn tmps assign body) wr := hy
      show Code.wpIn _ _ _ _ _ { tmps := #[_, _, _, _, .pointer (some ⟨b, 0, none⟩), _, _, _, _, _, _, _, _, _, _, _, _, _, _, _, _, _], defers := [] } _
      have HB := Lib.hid hb
      clear hJs hb
      gi_wp2
      refine hR.mono ?_
      rintro e W3 (⟨rfl, hJ3⟩ | ⟨rfl, hJ3⟩)
      · have n1 := (HFa.out (k + 1) W3 hJ3).2 k b rfl HB.out
        unfold ptrO at n1
        have HJ := Lib.hid hJ3
        clear hJ3 hR hy
        gi_wp2
        go_roundw
        case rel => exact ⟨k + 1, by omega, by simp, rfl, HJ.out⟩
        case measure => simp [intOf]; omega
      · have HJ := Lib.hid hJ3
        clear hJ3 hR hy
        gi_wp2
        refine bodyPost_ret (results_none rfl _ _ _) rfl ?_
        exact ⟨⟨_, rfl⟩, .inr ⟨k + 1, by omega, HJ.out⟩⟩
    · obtain rfl : k = ps.length := by omega
      have hb : ps[ps.length]? = none := by simp
      rw [hb]
      show Code.wpIn _ _ _ _ _ { tmps := #[_, _, _, _, .pointer none, _, _, _, _, _, _, _, _, _, _, _, _, _, _, _, _, _], defers := [] } _
      clear hb
      gi_wp2
      go_end0
      exact ⟨⟨_, rfl⟩, .inl hJs⟩
end Go.Proofs.YtbhnjnoblkfckaaGreatDoor

-- from XStEn
/- Walks: storage, by the program: chains made of any storage, rows told. -/
namespace Go.Proofs.YtbhnjnoblkfckaaGreatDoor
open Go.RowKit Go.Maps

theorem Chn.lower {w : World} {c mb B N B' : Nat} {L : List (Nat × En)} (h : Chn w c mb B N L) (hb : B' ≤ B) : Chn w c mb B' N L :=
  ⟨h.head, h.links, h.nodup, fun x hx => ⟨Nat.le_trans hb (h.far x hx).1, (h.far x hx).2⟩, ⟨Nat.le_trans hb h.low.1, Nat.le_trans hb h.low.2.1, h.low.2.2⟩, h.map, h.ok⟩
theorem Chn.grown {w w' : World} {c mb B N : Nat} {L : List (Nat × En)} {row : Option Nat} (h : Chn w c mb B N L) (hg : w.grownBy w' row) (hr : ∀ j, row = some j → ¬ Cs c mb L j) : Chn w' c mb B N L :=
  h.keep (S := fun j => row = some j) (only_of_grown hg fun _ h => h) hr
/-- A chain stays while what is no cells turns, above its map. -/
theorem chn_turned {X Y : World} {c mb B N B0 : Nat} {L : List (Nat × En)} {row : Option Nat} (h : Chn X c mb B N L) (hg : X.grownBy Y row) (hmb : mb < B0) (hr : ∀ r, row = some r → B0 ≤ r ∧ ∃ o : Obj, X.heap[r]? = some o ∧ o.isCells = false) : Chn Y c mb B N L :=
  h.grown hg fun j hj hc => by
    obtain ⟨h1, o, ho, hno⟩ := hr j hj
    rcases hc with rfl | rfl | hc
    · rw [h.head] at ho; cases ho; cases hno
    · omega
    · obtain ⟨x, hx, rfl⟩ := List.mem_map.1 hc
      obtain ⟨dom, ah, nx, tw, hM, _, hd⟩ := h.links
      rw [hM _ _ (hd x hx)] at ho; cases ho; cases hno
theorem cs_less {c mb j b : Nat} {e : En} {A R : List (Nat × En)} (h : Cs c mb (A ++ R) j) : Cs c mb (A ++ (b, e) :: R) j := by
  rcases h with h | h | h
  · exact .inl h
  · exact .inr (.inl h)
  · refine .inr (.inr ?_)
    simp only [List.map_append, List.map_cons, List.mem_append, List.mem_cons] at h ⊢
    rcases h with h | h <;> simp [h]
theorem entries_any (v : Value) (L : List En) (w : World) (hR : ERow w v L) (hE : EnsOk 1048576 L) (hn : L.length ≤ 2000000) :
    Calls Tryz.prog 45 #[.agg #[v]] w fun e' w' => ∃ c mb M, e' = .returned (.pointer (some ⟨c, 0, none⟩)) ∧ Chn w' c mb w.heap.size L.length M ∧ M.map (·.2) = L ∧ Below w.heap.size w w' :=
  (entries_of v L w hR hE hn).mono fun _ _ ⟨c, mb, M, h1, h2, h3, h4⟩ => ⟨c, mb, M, h1, h2.lower (Nat.le_succ _), h3, ((Below.refl _ _).alloc (Nat.le_refl _) _).trans (h4.mono (Nat.le_succ _))⟩
theorem outE_sub (L : List En) (p : ByteArray) (m : Int) : ∀ e ∈ outE L p m, e ∈ L := fun _ he => List.mem_of_mem_eraseP he
theorem outE_len (L : List En) (p : ByteArray) (m : Int) : (outE L p m).length ≤ L.length := List.length_eraseP_le
theorem own_lowB {w : World} {B B' : Nat} {e : TypeId} {size : Nat} {v : Value} {n : Nat} {xs : List Value} (h : w.ownsRow B e size v n xs) (hb : B' ≤ B) : w.ownsRow B' e size v n xs := by
  obtain ⟨h1, h2⟩ := h
  refine ⟨h1, ?_⟩
  rcases h2 with h2 | ⟨g, cap, cur, r1, r2, r3⟩
  · exact .inl h2
  · exact .inr ⟨g, cap, cur, r1, Nat.le_trans hb r2, r3⟩
/-- A box told a row that the call owns. -/
theorem told_row {w : World} {g B n : Nat} {t e : TypeId} {u v : Value} {size : Nat} {xs : List Value} (hb : Boxed w g t u) (hte : t ≠ e) (ho : w.ownsRow B e size v n xs) : Boxed (w.setCell ⟨g, 0, none⟩ v) g t v ∧ (w.setCell ⟨g, 0, none⟩ v).ownsRow B e size v n xs :=
  ⟨hb.set v, ho.kept (grownBy_setCell' w g v) (.inr (hb.not_row hte ho).symm)⟩
theorem own_slice {w : World} {B n : Nat} {e : TypeId} {v : Value} {size : Nat} {xs : List Value} (ho : w.ownsRow B e size v n xs) : ∃ a c, v = .slice a n c := by
  rcases ho.2 with ⟨rfl, h0⟩ | ⟨g, cap, _, rfl, _⟩
  · exact ⟨none, 0, by rw [h0]⟩
  · exact ⟨_, _, rfl⟩

/-- Storage handed back: a row of the call's own. -/
def SRet (w : World) (L : List En) (e' : Ending) (w' : World) : Prop := ∃ v, e' = .returned (.agg #[v]) ∧ w'.ownsRow w.heap.size 48 9 v L.length (ecells L) ∧ Below w.heap.size w w'

end Go.Proofs.YtbhnjnoblkfckaaGreatDoor

-- from XStC
/- Walks: links, by the program: a link's going is told to its twins. -/
namespace Go.Proofs.YtbhnjnoblkfckaaGreatDoor
open Go.RowKit Go.Maps

def Tws (tw : Nat → Option Nat) : List (Nat × En) → Prop
  | [] => True
  | (b, e) :: r => tw b = firstK e.place e.mask r ∧ Tws tw r
theorem Lk.tws {ah nx tw : Nat → Option Nat} : ∀ {L : List (Nat × En)} {p : Option Nat}, Lk ah nx tw p L → Tws tw L
  | [], _, _ => trivial
  | _ :: _, _, h => ⟨h.2.2.1, h.2.2.2.tws⟩
theorem tws_at {tw : Nat → Option Nat} {b : Nat} {e : En} {B : List (Nat × En)} : ∀ {A : List (Nat × En)}, Tws tw (A ++ (b, e) :: B) → tw b = firstK e.place e.mask B
  | [], h => h.1
  | _ :: A, h => tws_at (A := A) h.2
theorem firstK_split {p : ByteArray} {m : Int} : ∀ {A : List (Nat × En)} {x : Nat}, firstK p m A = some x → ∃ A1 f A2, A = A1 ++ (x, f) :: A2 ∧ isK p m f = true
  | [], _, h => by cases h
  | (y, g) :: r, x, h => by
    rw [firstK_cons] at h
    split at h
    · rename_i hg
      cases h
      exact ⟨[], g, r, rfl, hg⟩
    · obtain ⟨A1, f, A2, rfl, hf⟩ := firstK_split h
      exact ⟨(y, g) :: A1, f, A2, rfl, hf⟩
theorem endK_at {p : ByteArray} {m : Int} {x : Nat} {f : En} {A2 : List (Nat × En)} (hf : isK p m f = true) (h : endK p m A2 = none) : ∀ {A1 : List (Nat × En)}, endK p m (A1 ++ (x, f) :: A2) = some x
  | [] => by
    show endK p m ((x, f) :: A2) = some x
    rw [endK_cons, h]; simp [hf]
  | a :: A1 => by
    show endK p m (a :: (A1 ++ (x, f) :: A2)) = some x
    rw [endK_cons, endK_at hf h]
theorem first_end {p : ByteArray} {m : Int} {A : List (Nat × En)} : endK p m A = none ↔ firstK p m A = none := by rw [endK_none, firstK_none]
theorem firstK_key {p : ByteArray} {m : Int} {f : En} (h : isK p m f = true) (L : List (Nat × En)) : firstK f.place f.mask L = firstK p m L := by
  obtain ⟨h1, h2⟩ := isK_iff.1 h
  rw [h1, h2]
theorem firstK_without {p : ByteArray} {m : Int} {A R : List (Nat × En)} {b : Nat} {e : En} (h : isK p m e = false) : firstK p m (A ++ R) = firstK p m (A ++ (b, e) :: R) := by
  rw [firstK_append, firstK_append, firstK_cons, h]; simp

/-- 'delete(m, k)' as one step of a region that draws. -/
theorem step_delete {P : Program} {ops : Array Oper} {o : Oper} {a : Act} {w w' : World} {K : Act → World → Prop} {Q : Exit → Act → World → Prop} {E : Prop}
    (hg : o.guard = none) (m x : Operand) (t k : TypeId) (hop : o.op = Op.call { callee := Callee.builtin Builtin.delete, args := #[m, x], argTypes := #[t, k] })
    (u v : Value) (hm : a.eval m = u) (hx : a.eval x = v) (hrun : (Builtin.delete_ #[t, k] o.type #[u, v]).run P w = .ok (.tuple #[]) w') (hK : K (a.put o.dst (.tuple #[])) w') :
    if Region.wanted o (yielded ops a.tmps) = true then Oper.wp P o a w K Q else E := by
  have hw : Region.wanted o (yielded ops a.tmps) = true := by simp [Region.wanted, hg]
  rw [if_pos hw]
  unfold Oper.wp
  simp [execOp, hop, resolve, invoke, builtin, hm, hx, hrun, Result.andThen]
  exact hK

/-- What is left when a link's twins have been told. -/
def FgPost (mb N : Nat) (A : List (Nat × En)) (e : En) (R : List (Nat × En)) (w : World) (e' : Ending) (w' : World) : Prop :=
  e' = .returned (.tuple #[]) ∧ ((∃ x n, endK e.place e.mask A = some x ∧ w' = (w.setCell ⟨x, 13, none⟩ (ptrO (firstK e.place e.mask R))).drewN n) ∨
    (endK e.place e.mask A = none ∧ w.grownBy w' (some mb) ∧ ∃ D', w'.ownsMap Tryz.prog 86 lkElem mb (N + 1) D' ∧ MapK D' (A ++ R)))

set_option maxRecDepth 100000 in
set_option maxHeartbeats 1600000 in
theorem forget_none (c mb N b : Nat) (A R : List (Nat × En)) (e : En) (fz : Option Nat) (w : World) (dom : Nat → Option En) (ah nx tw : Nat → Option Nat) (hh : w.heap[c]? = some (chO fz mb)) (hM : Mem w dom ah nx tw) (hT : Tws tw (A ++ (b, e) :: R))
    (hd : dom b = some e) (D : DataW Unit) (hD : w.ownsMap Tryz.prog 86 lkElem mb N D) (hK : MapK D (A ++ (b, e) :: R)) (he : EnOk 1048576 e) (hN : N < maxLen) (hA : endK e.place e.mask A = none) :
    Calls Tryz.prog 97 #[.pointer (some ⟨c, 0, none⟩), .pointer (some ⟨b, 0, none⟩)] w (FgPost mb N A e R w) := by
  have hp1 : e.place.size ≤ maxLen := Nat.le_trans he.place (by decide)
  have hkey := keyOf_ke (p := e.place) (m := e.mask) hp1 he.wf
  have hmt := Tryz.underlying75
  have hA1 := first_end.1 hA
  obtain ⟨v, ps, hrun, hR⟩ := hD.drew.lookup lawKe hmt (z := .pointer none) (by kernel_rfl) (zd := .nil) (zp := []) rfl hkey
  rw [(hK.2 e.place e.mask hp1 he.wf).2, firstK_append, hA1, firstK_cons, if_pos (isK_self e)] at hR
  obtain rfl := lkElem_inv hR
  replace hrun : _ = Result.ok (Value.pointer (some ⟨b, 0, none⟩)) _ := hrun
  obtain ⟨-, q1, -⟩ := ch_facts hh
  obtain ⟨⟨x0, x1⟩, -, -, -, x13⟩ := lk_facts (hM b e hd)
  rw [tws_at hT] at x13
  cases ht : firstK e.place e.mask R with
  | some t =>
    rw [ht] at x13
    replace x13 : _ = some (Value.pointer (some ⟨t, 0, none⟩)) := x13
    obtain ⟨w2, hup, hown, hg⟩ := hD.drew.drew.update lawKe hmt hN hkey (lkElem_mk (some t))
    replace hup : (Instr.mapUpdate _ (.map (some mb)) (.agg #[.string e.place, .int .i64 e.mask]) (.pointer (some ⟨t, 0, none⟩))).run Tryz.prog w.drew.drew = .ok () w2 := hup
    have HF : Hid (FgPost mb N A e R w (.returned (.tuple #[])) w2) := Lib.hid ⟨rfl, .inr ⟨hA, ⟨hg.os, hg.tape, hg.output, hg.size, hg.block⟩, _, hown, mapk_set hK hp1 he.wf (by rw [firstK_append, hA1, ht]; rfl) (fun q k hq => firstK_without (by rw [Bool.eq_false_iff]; exact fun hk => hq (isK_iff.1 hk)))⟩⟩
    have hne := neq_same w.drew b
    clear hR hown hg hkey hK hA hA1 hT hD hh hM hd ht he
    go_enter Tryz.func97, Tryz.ntmps97
    go_wp2_with fail
    go_region
    go_wp2_with fail
    go_region
    go_end0
    exact HF.out
  | none =>
    rw [ht] at x13
    replace x13 : _ = some (Value.pointer none) := x13
    obtain ⟨w2, hup, hown, hg⟩ := hD.drew.drew.drop lawKe hmt hkey 0
    replace hg := hg.grown
    have HF : Hid (FgPost mb N A e R w (.returned (.tuple #[])) w2) := Lib.hid ⟨rfl, .inr ⟨hA, ⟨hg.os, hg.tape, hg.output, hg.size, hg.block⟩, _, hown.mono (Nat.le_succ _), mapk_del hK hp1 he.wf (by rw [firstK_append, hA1, ht]; rfl) (fun q k hq => firstK_without (by rw [Bool.eq_false_iff]; exact fun hk => hq (isK_iff.1 hk)))⟩⟩
    have HU := Lib.hid hup
    have hne := neq_same w.drew b
    clear hR hown hg hkey hK hA hA1 hT hD hh hM hd ht he hup
    go_enter Tryz.func97, Tryz.ntmps97
    go_wp2_with fail
    go_region
    go_wp2_with fail
    go_region_law (refine step_delete rfl (.tmp 17) (.tmp 21) _ _ rfl _ _ (by simp [Act.eval]) (by simp [Act.eval]) HU.out ?_)
    all_goals
      go_end0
      exact HF.out

set_option maxRecDepth 100000 in
set_option maxHeartbeats 1600000 in
theorem forget_some (c mb N b xl : Nat) (A R : List (Nat × En)) (e : En) (fz : Option Nat) (w : World) (dom : Nat → Option En) (ah nx tw : Nat → Option Nat) (hh : w.heap[c]? = some (chO fz mb)) (hM : Mem w dom ah nx tw) (hT : Tws tw (A ++ (b, e) :: R))
    (hd : ∀ x ∈ A ++ (b, e) :: R, dom x.1 = some x.2) (hn : ((A ++ (b, e) :: R).map (·.1)).Nodup) (D : DataW Unit) (hD : w.ownsMap Tryz.prog 86 lkElem mb N D) (hK : MapK D (A ++ (b, e) :: R)) (he : EnOk 1048576 e) (hA : endK e.place e.mask A = some xl) :
    Calls Tryz.prog 97 #[.pointer (some ⟨c, 0, none⟩), .pointer (some ⟨b, 0, none⟩)] w (FgPost mb N A e R w) := by
  have hp1 : e.place.size ≤ maxLen := Nat.le_trans he.place (by decide)
  have hkey := keyOf_ke (p := e.place) (m := e.mask) hp1 he.wf
  have hmt := Tryz.underlying75
  obtain ⟨x0, hx0⟩ : ∃ x0, firstK e.place e.mask A = some x0 := by
    cases hf : firstK e.place e.mask A with
    | some x => exact ⟨x, rfl⟩
    | none => rw [first_end.2 hf] at hA; cases hA
  obtain ⟨v, ps, hrun, hR⟩ := hD.drew.lookup lawKe hmt (z := .pointer none) (by kernel_rfl) (zd := .nil) (zp := []) rfl hkey
  rw [(hK.2 e.place e.mask hp1 he.wf).2, firstK_append, hx0] at hR
  obtain rfl := lkElem_inv hR
  replace hrun : _ = Result.ok (Value.pointer (some ⟨x0, 0, none⟩)) _ := hrun
  obtain ⟨-, q1, -⟩ := ch_facts hh
  have hb := hM b e (hd (b, e) (by simp))
  obtain ⟨⟨k0, k1⟩, -, -, -, x13⟩ := lk_facts hb
  rw [tws_at hT] at x13
  have hdist : ∀ x ∈ A, x.1 ≠ b := fun x hx ec => by
    rw [List.map_append, List.nodup_append] at hn
    exact hn.2.2 x.1 (List.mem_map.2 ⟨x, hx, rfl⟩) b (by simp) ec
  obtain ⟨A1, f0, A2, hsp, hf0⟩ := firstK_split hx0
  have hne0 := neq_other (w := w.drew) (hdist (x0, f0) (by rw [hsp]; simp)) (hM x0 f0 (hd (x0, f0) (by rw [hsp]; simp))) hb
  -- what is read at a twin
  have hat : ∀ B1 x f B2, A = B1 ++ (x, f) :: B2 → isK e.place e.mask f = true → w.drew.cell? ⟨x, 13, none⟩ = some (ptrO ((firstK e.place e.mask B2).or (some b))) ∧ w.drew.frozen? ⟨x, 13, none⟩ = false ∧ (endK e.place e.mask B2 = none → x = xl) := fun B1 x f B2 hs hf => by
    have hx := hM x f (hd (x, f) (by rw [hs]; simp))
    obtain ⟨-, -, -, -, y13⟩ := lk_facts hx
    have h2 : tw x = firstK f.place f.mask (B2 ++ (b, e) :: R) := tws_at (A := B1) (by rw [hs] at hT; simpa using hT)
    rw [h2, firstK_key hf, firstK_append, firstK_cons, if_pos (isK_self e)] at y13
    refine ⟨y13, lk_frozen hx 13, fun h0 => ?_⟩
    have := endK_at (x := x) hf h0 (A1 := B1)
    rw [← hs, hA] at this
    cases this; rfl
  have hnq : ∀ x f, (x, f) ∈ A → (binOp .neq 74 (.pointer (some ⟨x, 0, none⟩)) (.pointer (some ⟨b, 0, none⟩))).run Tryz.prog w.drew = .ok (.bool true) w.drew := fun x f hx =>
    neq_other (w := w.drew) (hdist (x, f) hx) (hM x f (hd (x, f) (List.mem_append_left _ hx))) hb
  have HF : Hid (∀ n, FgPost mb N A e R w (.returned (.tuple #[])) ((w.drewN n).setCell ⟨xl, 13, none⟩ (ptrO (firstK e.place e.mask R)))) := Lib.hid fun n => ⟨rfl, .inl ⟨xl, n, hA, rfl⟩⟩
  have hbb := neq_same w.drew b
  have hxb : xl ≠ b := by
    obtain ⟨x, hx, ex⟩ := List.mem_map.1 (endK_mem hA)
    rw [← ex]; exact hdist x hx
  have HAt := Lib.hid hat
  have HNq := Lib.hid hnq
  have HSp := Lib.hid hsp
  have HF0 := Lib.hid hf0
  unfold ptrO at HF x13
  obtain ⟨zr, hzr⟩ : ∃ zr, zr = adO (firstK e.place e.mask R) := ⟨_, rfl⟩
  rw [← hzr] at HF x13
  have Hxb := Lib.hid hxb
  clear hR hkey hK hA hT hD hh hM hd hn he hat hnq hsp hf0 hx0 hzr hdist hb hxb
  go_enter Tryz.func97, Tryz.ntmps97
  go_wp2_with fail
  go_region
  clear hrun k0 k1
  go_wp2_with fail
  go_loopg [4] A2.length (fun k t wr => wr = w.drew ∧ ∃ B1 x f B2, t = .pointer (some ⟨x, 0, none⟩) ∧ A = B1 ++ (x, f) :: B2 ∧ isK e.place e.mask f = true ∧ B2.length = k)
  case atStart => exact ⟨rfl, A1, x0, f0, A2, rfl, HSp.out, HF0.out, rfl⟩
  case round =>
    obtain ⟨rfl, B1, x, f, B2, rfl, hs, hf, hk⟩ := hrel
    obtain ⟨h13, hz, hend⟩ := HAt.out B1 x f B2 hs hf
    have hnx := HNq.out x f (by rw [hs]; simp)
    cases hq : firstK e.place e.mask B2 with
    | none =>
      rw [hq] at h13
      replace h13 : w.cell? ⟨x, 13, none⟩ = some (Value.pointer (some ⟨b, 0, none⟩)) := h13
      replace hz : w.frozen? ⟨x, 13, none⟩ = false := hz
      have hx : x = xl := hend (first_end.2 hq)
      subst hx
      clear hs hf hk hq hend hne0 HSp HF0 HAt
      go_wp2
      go_end0
      exact HF.out 1
    | some y =>
      rw [hq] at h13
      replace h13 : w.cell? ⟨x, 13, none⟩ = some (Value.pointer (some ⟨y, 0, none⟩)) := h13
      obtain ⟨C1, g, C2, hc, hg⟩ := firstK_split hq
      have hny := HNq.out y g (by rw [hs, hc]; simp)
      have HS : Hid (A = (B1 ++ (x, f) :: C1) ++ (y, g) :: C2) := Lib.hid (by rw [hs, hc]; simp)
      have HG := Lib.hid hg
      have HL : Hid (C2.length < gk) := Lib.hid (by rw [← hk, hc]; simp; omega)
      clear hs hf hk hq hend hc hg hz hnx hne0 HSp HF0 HAt
      go_wp2
      go_roundg C2.length
      case measure => exact HL.out
      case rel => exact ⟨rfl, _, y, g, C2, rfl, HS.out, HG.out, rfl⟩

end Go.Proofs.YtbhnjnoblkfckaaGreatDoor

