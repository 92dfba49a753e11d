/- Storage: a chain of links as it lies in memory, its map beside it; no function of the program. -/
import Derived.Test.YtbhnjnoblkfckaaStP
import Derived.Test.YtbhnjnoblkfckaaRows
import Derived.Maps.OwnSet
import Derived.Maps.OwnIn
import Derived.WideKeyEntry
import Derived.DeepKeys4
namespace Go.Proofs.Ytbhnjnoblkfckaa
open Go.RowKit Go.Maps

/-! ### the map's keys and elements -/
theorem rowKe : (46 : TypeId) < Try.prog.types.size := of_decide_eq_true (by kernel_rfl)
theorem wideKe : (match Try.prog.underlying 46 with | some (.array _ _) | some (.struct _) => true | _ => false) = true := by kernel_rfl
set_option maxRecDepth 100000 in
theorem lawKe0 : WideMaps.KeyLaw Try.prog 46 := deep_law_laid (m := 2) (by kernel_rfl) (by omega) rowKe (by kernel_rfl) wideKe
set_option maxRecDepth 100000 in
theorem lawKe : Keyed Try.prog 46 := Keyed.of_law lawKe0
def keL (p : ByteArray) (m : Int) : Lit := .string (keyBytes [.string p.data.toList, .int .i64 m])
set_option maxRecDepth 100000 in
theorem keyOf_ke {p : ByteArray} {m : Int} (hp : p.size ≤ maxLen) (hm : (Lit.int .i64 m).wf = true) : keyOf Try.prog 46 (.agg #[.string p, .int .i64 m]) = some (keL p m) := by
  obtain ⟨n, hn⟩ : ∃ n, Try.prog.types.size = n + 1 := ⟨_, (Nat.succ_pred_eq_of_pos (Nat.lt_of_le_of_lt (Nat.zero_le _) rowKe)).symm⟩
  have hC : Try.prog.cellsOf 46 = 2 := by kernel_rfl
  have hS : Try.prog.cellsOf 9 = 1 := by kernel_rfl
  have hI : Try.prog.cellsOf 3 = 1 := by kernel_rfl
  have hk : Try.prog.keyType 46 = true := by kernel_rfl
  unfold keyOf
  simp only [Try.underlying46]
  rw [if_pos (by simp [hk, Value.formed, Try.underlying46, hC]), hn]
  unfold Program.keyLits
  simp only [Try.underlying46, Value.cells]
  rw [if_pos (by simp [hC])]
  simp [Program.keyLits, hS, hI, Try.underlying9, Try.underlying3, hp, hm, keL]
theorem keL_ne {p q : ByteArray} {m k : Int} (hp : p.size ≤ maxLen) (hm : (Lit.int .i64 m).wf = true) (hq : q.size ≤ maxLen) (hk : (Lit.int .i64 k).wf = true) (h : ¬ (p = q ∧ m = k)) : keL p m ≠ keL q k := fun e => by
  have h1 := keyOf_ke hp hm
  rw [e] at h1
  have := lawKe.inj h1 (keyOf_ke hq hk)
  simp at this
  exact h this

def adO (o : Option Nat) : Option Addr := o.map fun b => (⟨b, 0, none⟩ : Addr)
def ptrO (o : Option Nat) : Value := .pointer (adO o)
theorem ptrO_some (b : Nat) : ptrO (some b) = .pointer (some ⟨b, 0, none⟩) := rfl
theorem ptrO_none : ptrO none = .pointer none := rfl
/-- How a pointer to a link reads among the map's elements: as the number of its block. -/
def lkElem (v : Value) : Option (DataW Unit × List MemPlace) := match v with
  | .pointer none => some (.nil, [])
  | .pointer (some ⟨b, 0, none⟩) => some (.lit (.int .i64 b), [])
  | _ => none
def lkD : Option Nat → DataW Unit
  | none => .nil
  | some b => .lit (.int .i64 b)
theorem lkElem_mk (o : Option Nat) : lkElem (ptrO o) = some (lkD o, []) := by cases o <;> rfl
theorem lkElem_inv {v : Value} {o : Option Nat} {ps : List MemPlace} (h : lkElem v = some (lkD o, ps)) : v = ptrO o := by
  unfold lkElem at h
  split at h
  · cases o with
    | none => rfl
    | some b => simp [lkD] at h
  · cases o with
    | none => simp [lkD] at h
    | some b =>
      simp only [lkD, Option.some.injEq, Prod.mk.injEq, DataW.lit.injEq, Lit.int.injEq, true_and] at h
      obtain ⟨h, _⟩ := h
      have := Int.ofNat_inj.1 h
      subst this; rfl
  · cases h

/-- The map reads as the first links of all keys. -/
def MapK (D : DataW Unit) (L : List (Nat × En)) : Prop :=
  (IsMap D ∧ ∀ x, Maps.has D x = true → ∃ (p : ByteArray) (m : Int), p.size ≤ maxLen ∧ (Lit.int .i64 m).wf = true ∧ x = keL p m) ∧ ∀ (p : ByteArray) (m : Int), p.size ≤ maxLen → (Lit.int .i64 m).wf = true → Maps.has D (keL p m) = (firstK p m L).isSome ∧ D.atKey (keL p m) .nil = lkD (firstK p m L)
theorem mapk_empty : MapK (.map []) [] := ⟨⟨isMap_empty, fun x hx => by cases hx⟩, fun _ _ _ _ => ⟨rfl, rfl⟩⟩
theorem isKey_keL (p : ByteArray) (m : Int) : WideAt.IsKeyLit (keL p m) := trivial
theorem mapk_set {D : DataW Unit} {L M : List (Nat × En)} {p : ByteArray} {m : Int} {b : Nat} (h : MapK D L) (hp : p.size ≤ maxLen) (hm : (Lit.int .i64 m).wf = true) (h1 : firstK p m M = some b)
    (h2 : ∀ q k, ¬ (p = q ∧ m = k) → firstK q k M = firstK q k L) : MapK (D.put (keL p m) (lkD (some b))) M := by
  refine ⟨⟨h.1.1.put _ _, fun x hx => ?_⟩, fun q k hq hk => ?_⟩
  · by_cases e : x = keL p m
    · exact ⟨p, m, hp, hm, e⟩
    · rw [has_put_other e] at hx; exact h.1.2 x hx
  by_cases e : p = q ∧ m = k
  · obtain ⟨rfl, rfl⟩ := e
    rw [has_put_same h.1.1 (isKey_keL _ _), atKey_put_same h.1.1 (isKey_keL _ _), h1]
    exact ⟨rfl, rfl⟩
  · have ne : keL q k ≠ keL p m := (keL_ne hp hm hq hk e).symm
    rw [has_put_other ne, atKey_put_other ne, h2 q k e]
    exact h.2 q k hq hk
theorem mapk_del {D : DataW Unit} {L M : List (Nat × En)} {p : ByteArray} {m : Int} (h : MapK D L) (hp : p.size ≤ maxLen) (hm : (Lit.int .i64 m).wf = true) (h1 : firstK p m M = none)
    (h2 : ∀ q k, ¬ (p = q ∧ m = k) → firstK q k M = firstK q k L) : MapK (D.del (keL p m)) M := by
  refine ⟨⟨h.1.1.del _, fun x hx => ?_⟩, fun q k hq hk => ?_⟩
  · by_cases e : x = keL p m
    · exact ⟨p, m, hp, hm, e⟩
    · rw [has_del_other e] at hx; exact h.1.2 x hx
  by_cases e : p = q ∧ m = k
  · obtain ⟨rfl, rfl⟩ := e
    rw [has_del_same, atKey_del_same, h1]
    exact ⟨rfl, rfl⟩
  · have ne : keL q k ≠ keL p m := (keL_ne hp hm hq hk e).symm
    rw [has_del_other ne, atKey_del_other ne, h2 q k e]
    exact h.2 q k hq hk
theorem mapk_same {D : DataW Unit} {L M : List (Nat × En)} (h : MapK D L) (h2 : ∀ q k, firstK q k M = firstK q k L) : MapK D M := ⟨h.1, fun q k hq hk => by rw [h2]; exact h.2 q k hq hk⟩

/-! ### what stays -/
/-- Blocks that were there, but for some, are as they were. -/
structure Only (S : Nat → Prop) (w w' : World) : Prop where
  os : w'.os = w.os
  tape : w'.tape = w.tape
  output : w'.output = w.output
  size : w.heap.size ≤ w'.heap.size
  block : ∀ j, j < w.heap.size → ¬ S j → w'.heap[j]? = w.heap[j]?
theorem Only.refl (S : Nat → Prop) (w : World) : Only S w w := ⟨rfl, rfl, rfl, Nat.le_refl _, fun _ _ _ => rfl⟩
theorem Only.trans {S : Nat → Prop} {a b c : World} (h : Only S a b) (k : Only S b c) : Only S a c :=
  ⟨k.os.trans h.os, k.tape.trans h.tape, k.output.trans h.output, Nat.le_trans h.size k.size, fun j hj hn => (k.block j (Nat.lt_of_lt_of_le hj h.size) hn).trans (h.block j hj hn)⟩
theorem Only.mono {S S' : Nat → Prop} {a b : World} (h : Only S a b) (hs : ∀ j, j < a.heap.size → S j → S' j) : Only S' a b :=
  ⟨h.os, h.tape, h.output, h.size, fun j hj hn => h.block j hj fun k => hn (hs j hj k)⟩
theorem Only.below {S : Nat → Prop} {a b : World} {B : Nat} (h : Only S a b) (hB : B ≤ a.heap.size) (hs : ∀ j, S j → B ≤ j) : Below B a b :=
  ⟨h.os, h.tape, h.output, h.size, fun j hj => h.block j (by omega) fun k => by have := hs j k; omega⟩
theorem only_of_below {S : Nat → Prop} {a b : World} (h : Below a.heap.size a b) : Only S a b := ⟨h.os, h.tape, h.output, h.size, fun j hj _ => h.block j hj⟩
theorem only_of_grown {S : Nat → Prop} {a b : World} {row : Option Nat} (h : a.grownBy b row) (hs : ∀ j, row = some j → S j) : Only S a b :=
  ⟨h.os, h.tape, h.output, h.size, fun j hj hn => h.block j hj fun e => hn (hs j e.symm)⟩
theorem only_set {S : Nat → Prop} (w : World) (b k : Nat) (x : Value) (hb : S b) : Only S w (w.setCell ⟨b, k, none⟩ x) :=
  ⟨rfl, rfl, rfl, by simp, fun j _ hn => heap_setCell_other w ⟨b, k, none⟩ j _ (fun e => hn (by rw [e]; exact hb))⟩
theorem only_drewN {S : Nat → Prop} {a b : World} (h : Only S a b) (n : Nat) : Only S a (b.drewN n) := ⟨h.os, h.tape, h.output, h.size, h.block⟩

/-! ### links in memory -/
def lkC (e : En) (ah nx tw : Option Nat) : Array Value :=
  #[.string e.place, .int .i64 e.mask, .string e.place, .int .i64 e.mask, .int .i64 e.rsp.code, .int .i64 e.rsp.mx, .bool e.rsp.hide, .string e.rsp.tag, .int .i64 e.rsp.cod, .string e.rsp.body, .int .i64 e.tm, ptrO ah, ptrO nx, ptrO tw]
def lkO (e : En) (ah nx tw : Option Nat) : Obj := .cells (lkC e ah nx tw) 60 (0, 0)
def chO (f : Option Nat) (mb : Nat) : Obj := .cells #[ptrO f, .map (some mb)] 44 (0, 0)
def fup (f : Nat → Option Nat) (b : Nat) (x : Option Nat) : Nat → Option Nat := fun j => if j = b then x else f j
def Mem (w : World) (dom : Nat → Option En) (ah nx tw : Nat → Option Nat) : Prop := ∀ b e, dom b = some e → w.heap[b]? = some (lkO e (ah b) (nx b) (tw b))
theorem Mem.keep {w w' : World} {dom : Nat → Option En} {ah nx tw : Nat → Option Nat} (h : Mem w dom ah nx tw) (hk : ∀ b e, dom b = some e → w'.heap[b]? = w.heap[b]?) : Mem w' dom ah nx tw := fun b e hb => (hk b e hb).trans (h b e hb)
theorem lkO_setA {w : World} {b : Nat} {e : En} {a n t : Option Nat} (h : w.heap[b]? = some (lkO e a n t)) (x : Option Nat) : (w.setCell ⟨b, 11, none⟩ (ptrO x)).heap[b]? = some (lkO e x n t) := heap_setCell_same w b 11 _ _ _ h
theorem lkO_setN {w : World} {b : Nat} {e : En} {a n t : Option Nat} (h : w.heap[b]? = some (lkO e a n t)) (x : Option Nat) : (w.setCell ⟨b, 12, none⟩ (ptrO x)).heap[b]? = some (lkO e a x t) := heap_setCell_same w b 12 _ _ _ h
theorem lkO_setT {w : World} {b : Nat} {e : En} {a n t : Option Nat} (h : w.heap[b]? = some (lkO e a n t)) (x : Option Nat) : (w.setCell ⟨b, 13, none⟩ (ptrO x)).heap[b]? = some (lkO e a n x) := heap_setCell_same w b 13 _ _ _ h
theorem set_other {w : World} {b j k : Nat} {x : Value} (h : j ≠ b) : (w.setCell ⟨b, k, none⟩ x).heap[j]? = w.heap[j]? := heap_setCell_other w ⟨b, k, none⟩ j _ (by simpa using h)
theorem Mem.setA {w : World} {dom : Nat → Option En} {ah nx tw : Nat → Option Nat} (h : Mem w dom ah nx tw) (b : Nat) (x : Option Nat) : Mem (w.setCell ⟨b, 11, none⟩ (ptrO x)) dom (fup ah b x) nx tw := fun j e hj => by
  unfold fup
  by_cases q : j = b
  · subst q; rw [if_pos rfl]; exact lkO_setA (h j e hj) x
  · rw [if_neg q, set_other q]; exact h j e hj
theorem Mem.setN {w : World} {dom : Nat → Option En} {ah nx tw : Nat → Option Nat} (h : Mem w dom ah nx tw) (b : Nat) (x : Option Nat) : Mem (w.setCell ⟨b, 12, none⟩ (ptrO x)) dom ah (fup nx b x) tw := fun j e hj => by
  unfold fup
  by_cases q : j = b
  · subst q; rw [if_pos rfl]; exact lkO_setN (h j e hj) x
  · rw [if_neg q, set_other q]; exact h j e hj
theorem Mem.setT {w : World} {dom : Nat → Option En} {ah nx tw : Nat → Option Nat} (h : Mem w dom ah nx tw) (b : Nat) (x : Option Nat) : Mem (w.setCell ⟨b, 13, none⟩ (ptrO x)) dom ah nx (fup tw b x) := fun j e hj => by
  unfold fup
  by_cases q : j = b
  · subst q; rw [if_pos rfl]; exact lkO_setT (h j e hj) x
  · rw [if_neg q, set_other q]; exact h j e hj
theorem lk_facts {w : World} {b : Nat} {e : En} {a n t : Option Nat} (h : w.heap[b]? = some (lkO e a n t)) :
    (w.cell? ⟨b, 0, none⟩ = some (.string e.place) ∧ w.cell? ⟨b, 1, none⟩ = some (.int .i64 e.mask)) ∧
    (w.cell? ⟨b, 2, none⟩ = some (.string e.place) ∧ w.cell? ⟨b, 3, none⟩ = some (.int .i64 e.mask) ∧ w.cell? ⟨b, 4, none⟩ = some (.int .i64 e.rsp.code) ∧ w.cell? ⟨b, 5, none⟩ = some (.int .i64 e.rsp.mx) ∧ w.cell? ⟨b, 6, none⟩ = some (.bool e.rsp.hide) ∧
      w.cell? ⟨b, 7, none⟩ = some (.string e.rsp.tag) ∧ w.cell? ⟨b, 8, none⟩ = some (.int .i64 e.rsp.cod) ∧ w.cell? ⟨b, 9, none⟩ = some (.string e.rsp.body) ∧ w.cell? ⟨b, 10, none⟩ = some (.int .i64 e.tm)) ∧
    w.cell? ⟨b, 11, none⟩ = some (ptrO a) ∧ w.cell? ⟨b, 12, none⟩ = some (ptrO n) ∧ w.cell? ⟨b, 13, none⟩ = some (ptrO t) := by
  unfold lkO lkC at h
  refine ⟨⟨?_, ?_⟩, ⟨?_, ?_, ?_, ?_, ?_, ?_, ?_, ?_, ?_⟩, ?_, ?_, ?_⟩ <;> simp [World.cell?, h]
theorem lk_frozen {w : World} {b : Nat} {e : En} {a n t : Option Nat} (h : w.heap[b]? = some (lkO e a n t)) (k : Nat) : w.frozen? ⟨b, k, none⟩ = false := by
  unfold lkO at h
  simp [World.frozen?, h]
theorem ch_facts {w : World} {c mb : Nat} {f : Option Nat} (h : w.heap[c]? = some (chO f mb)) : w.cell? ⟨c, 0, none⟩ = some (ptrO f) ∧ w.cell? ⟨c, 1, none⟩ = some (.map (some mb)) ∧ w.frozen? ⟨c, 0, none⟩ = false := by
  unfold chO at h
  refine ⟨?_, ?_, ?_⟩ <;> simp [World.cell?, World.frozen?, h]
theorem chO_set {w : World} {c mb : Nat} {f : Option Nat} (h : w.heap[c]? = some (chO f mb)) (x : Option Nat) : (w.setCell ⟨c, 0, none⟩ (ptrO x)).heap[c]? = some (chO x mb) := heap_setCell_same w c 0 _ _ _ h

/-- The blocks of a chain. -/
def Cs (c mb : Nat) (L : List (Nat × En)) (j : Nat) : Prop := j = c ∨ j = mb ∨ j ∈ L.map (·.1)
/-- A chain: its links in their order, and the first link of every key; all of it lies from block B on. -/
structure Chn (w : World) (c mb B N : Nat) (L : List (Nat × En)) : Prop where
  head : w.heap[c]? = some (chO (hdB L) mb)
  links : ∃ dom ah nx tw, Mem w dom ah nx tw ∧ Lk ah nx tw none L ∧ ∀ x ∈ L, dom x.1 = some x.2
  nodup : (L.map (·.1)).Nodup
  far : ∀ x ∈ L, B ≤ x.1 ∧ x.1 ≠ c ∧ x.1 ≠ mb
  low : B ≤ c ∧ B ≤ mb ∧ c ≠ mb
  map : ∃ D, w.ownsMap Try.prog 46 lkElem mb N D ∧ MapK D L
  ok : ∀ x ∈ L, EnOk 1048576 x.2
theorem Chn.cs {w : World} {c mb B N : Nat} {L : List (Nat × En)} (h : Chn w c mb B N L) {j : Nat} (hj : Cs c mb L j) : B ≤ j ∧ j < w.heap.size := by
  rcases hj with rfl | rfl | hj
  · exact ⟨h.low.1, (Array.getElem?_eq_some_iff.1 h.head).1⟩
  · obtain ⟨D, hD, _⟩ := h.map
    exact ⟨h.low.2.1, hD.lt⟩
  · obtain ⟨x, hx, rfl⟩ := List.mem_map.1 hj
    obtain ⟨dom, ah, nx, tw, hM, _, hd⟩ := h.links
    exact ⟨(h.far x hx).1, (Array.getElem?_eq_some_iff.1 (hM _ _ (hd x hx))).1⟩
theorem Chn.keep {w w' : World} {c mb B N : Nat} {L : List (Nat × En)} {S : Nat → Prop} (h : Chn w c mb B N L) (hk : Only S w w') (hs : ∀ j, S j → ¬ Cs c mb L j) : Chn w' c mb B N L := by
  have hc : ∀ j, Cs c mb L j → w'.heap[j]? = w.heap[j]? := fun j hj => hk.block j (h.cs hj).2 fun k => hs j k hj
  obtain ⟨dom, ah, nx, tw, hM, hL, hd⟩ := h.links
  refine ⟨(hc c (.inl rfl)).trans h.head, ⟨fun b => if b ∈ L.map (·.1) then dom b else none, ah, nx, tw, ?_, hL, fun x hx => ?_⟩, h.nodup, h.far, h.low, ?_, h.ok⟩
  · intro b e hb
    dsimp only at hb
    split at hb
    · rename_i hm
      exact (hc b (.inr (.inr hm))).trans (hM b e hb)
    · cases hb
  · show (if x.1 ∈ L.map (·.1) then dom x.1 else none) = some x.2
    rw [if_pos (List.mem_map.2 ⟨x, hx, rfl⟩)]; exact hd x hx
  · obtain ⟨D, ⟨es, clock, hb, r⟩, hK⟩ := h.map
    exact ⟨D, ⟨es, clock, (hc mb (.inr (.inl rfl))).trans hb, r⟩, hK⟩
theorem Chn.below {w w' : World} {c mb B N : Nat} {L : List (Nat × En)} (h : Chn w c mb B N L) (hk : Below w.heap.size w w') : Chn w' c mb B N L := h.keep (S := fun _ => False) (only_of_below hk) (fun _ h => h.elim)
theorem Chn.mono {w : World} {c mb B N N' : Nat} {L : List (Nat × En)} (h : Chn w c mb B N L) (hn : N ≤ N') : Chn w c mb B N' L := by
  obtain ⟨D, hD, hK⟩ := h.map
  exact ⟨h.head, h.links, h.nodup, h.far, h.low, ⟨D, hD.mono hn, hK⟩, h.ok⟩
/-- A link of it, with what it leads to. -/
theorem Chn.link {w : World} {c mb B N : Nat} {A R : List (Nat × En)} {b : Nat} {e : En} (h : Chn w c mb B N (A ++ (b, e) :: R)) : w.heap[b]? = some (lkO e (endB none A) (hdB R) (firstK e.place e.mask R)) := by
  obtain ⟨dom, ah, nx, tw, hM, hL, hd⟩ := h.links
  obtain ⟨h1, h2, h3⟩ := lk_at hL
  rw [hM b e (hd (b, e) (by simp)), h1, h2, h3]

/-- 'm[k], .. = v, ..': the entry is laid (or found), and told later, in whatever world still has the block so. -/
theorem owns_entry {P : Program} {k t e : TypeId} {R : Value → Option (DataW Unit × List MemPlace)} {w : World} {b n : Nat} {D : DataW Unit} (h : w.ownsMap P k R b n D) (K : WideMaps.KeyLaw P k) (ht : P.underlying t = some (.map k e)) (hn : n < maxLen) {z : Value}
    (hz : ∀ u : World, (zeroValue e).run P u = .ok z u) {key val : Value} {kl : Lit} {d : DataW Unit} {ps : List MemPlace} (hkey : keyOf P k key = some kl) (hv : R val = some (d, ps)) :
    ∃ v0 st w1 w2, (Instr.mapEntry t (.map (some b)) key).run P w = .ok (.tuple #[v0, goInt st]) w1 ∧ (Instr.entryStore t (.map (some b)) (goInt st) val).run P w1 = .ok () w2 ∧ w2.ownsMap P k R b (n + 1) (D.put kl d) ∧ w.grownBy w1 (some b) ∧ w.grownBy w2 (some b) := by
  obtain ⟨w', hup, hown, hg⟩ := h.update (Keyed.of_law K) ht hn hkey hv
  obtain ⟨es, clock, hb, F, hs, rfl⟩ := h
  obtain ⟨v0, st, es1, c1, h1, _, h3⟩ := Go.WideElems.entry_then_store K ht hz hb F hkey
  have hlt := (Array.getElem?_eq_some_iff.1 hb).1
  have hb1 : (Go.ChangeMaps.setBlock w b (.map es1 c1)).heap[b]? = some (.map es1 c1) := Go.ChangeMaps.heap_setBlock_same hb _
  obtain ⟨es', c', r1, r2⟩ := h3 _ val hb1
  rw [hup] at r2
  have e : w' = Go.ChangeMaps.setBlock w b (.map es' c') := by injection r2
  have e2 : Go.ChangeMaps.setBlock (Go.ChangeMaps.setBlock w b (.map es1 c1)) b (.map es' c') = Go.ChangeMaps.setBlock w b (.map es' c') := by simp [Go.ChangeMaps.setBlock]
  refine ⟨v0, st, _, _, h1, r1, by rw [e2, ← e]; exact hown, ⟨rfl, rfl, rfl, by simp [Go.ChangeMaps.setBlock], fun i _ hi => Go.ChangeMaps.heap_setBlock_other hb _ (fun e => hi (by rw [e]))⟩, by rw [e2, ← e]; exact hg⟩
end Go.Proofs.Ytbhnjnoblkfckaa
