import Derived.Test.YtbhnjnoblkfckaaGreatDoorGZ06
import Derived.Deep.RegionHeld3
import Derived.Test.YtbhnjnoblkfckaaGreatDoorGZ02
import Derived.Test.YtbhnjnoblkfckaaGreatDoorGZ00
import Derived.Test.YtbhnjnoblkfckaaGreatDoorGZ05
import Derived.Laws.EntriesVeiled
import Derived.Deep.RegionWith
-- from XHedL
/- A request's cells, read at once. -/
namespace Go.Proofs.YtbhnjnoblkfckaaGreatDoor
open Go.RowKit

theorem fsL_len (fs : List Fd) : (fsL fs).length ≤ 45 * fs.length := by
  induction fs with
  | nil => simp [fsL, joinL]
  | cons f fs ih =>
    have e : fsL (f :: fs) = (fdT f).data.toList ++ 10 :: fsL fs := by simp [fsL, joinL]
    have := fdT_len f
    rw [size_len] at this
    rw [e]
    simp only [List.length_append, List.length_cons]
    omega
theorem head_len (h : Hd) (hb : h.body.size ≤ 1048576) : (headT h).length ≤ h.verb.size + h.target.size + h.host.size + 45 * h.fs.length + 100 := by
  have e : (hedT h).length = (headT h).length + h.body.data.toList.length := by simp [hedT]
  have hp : (preL h).length = h.verb.size + h.target.size + h.host.size + 9 := by
    rw [size_len, size_len, size_len]; simp only [preL, bHost, List.length_append, List.length_cons, List.length_nil]; omega
  have hf := fsL_len h.fs
  have hl : (joinL (lenLines h.body.data.toList)).length ≤ 20 := by
    unfold lenLines
    split
    · simp [joinL]
    · have := dec_len_le 7 h.body.data.toList.length (by rw [← size_len]; omega)
      simp only [joinL, List.flatMap_cons, List.flatMap_nil, List.length_append, List.length_cons, List.length_nil, bLength]
      omega
  have e2 := congrArg List.length (hedT_pre h)
  simp only [List.length_append, List.length_cons] at e2
  omega

/-- As Below, whatever was drawn. -/
def BelowH (B : Nat) (w w' : World) : Prop := Below B w { w' with drawn := w.drawn }
theorem below_toH {B : Nat} {w w' : World} (h : Below B w w') : BelowH B w w' := ⟨h.os, h.tape, h.output, h.size, h.block⟩
theorem BelowH.out {B : Nat} {w w' : World} (h : BelowH B w w') : Below B w w' := ⟨h.os, h.tape, h.output, h.size, h.block⟩
/-- What stays of a request's cells. -/
def HedS (w : World) (fs : List Fd) (v : Value) (W : World) : Prop := FRow W v fs ∧ BelowH w.heap.size w W ∧ w.heap.size < W.heap.size
theorem HedS.next {w W W' : World} {fs : List Fd} {v : Value} (h : HedS w fs v W) (hb : Below W.heap.size W W') : HedS w fs v W' :=
  ⟨h.1.below (Nat.le_refl _) hb, below_toH (h.2.1.out.trans (hb.mono h.2.1.out.size)), Nat.lt_of_lt_of_le h.2.2 hb.size⟩
end Go.Proofs.YtbhnjnoblkfckaaGreatDoor

-- from XHedO
/- Walks: whether a request is ok, by the specification. -/
namespace Go.Proofs.YtbhnjnoblkfckaaGreatDoor
open Go.RowKit

theorem hed_no {h : Hd} (hk : ¬ HOk h) : hedB h = false := by
  rw [Bool.eq_false_iff]; exact fun e => hk (hedB_iff.1 e)

theorem can_parts (t : ByteArray) : ∃ (T : ByteArray) (ok : Bool), canV (canonL t.data.toList) = .tuple #[.string T, .bool ok] ∧ ((ok = true ∧ T = t) ↔ canonL t.data.toList = some t.data.toList) := by
  cases hc : canonL t.data.toList with
  | none => exact ⟨⟨#[]⟩, false, rfl, by simp⟩
  | some c =>
    refine ⟨⟨c.toArray⟩, true, rfl, ?_⟩
    constructor
    · rintro ⟨_, h⟩; rw [← h]
    · intro h; refine ⟨rfl, ?_⟩; rw [Option.some.inj h]
theorem host_parts (t : ByteArray) : ∃ (T : ByteArray) (ok : Bool), hostR t.data.toList = (T, ok) ∧ ((ok = true ∧ T = t) ↔ hostB t.data.toList = true) := by
  obtain ⟨T, ok, hr⟩ : ∃ T ok, hostR t.data.toList = (T, ok) := ⟨_, _, rfl⟩
  refine ⟨T, ok, hr, ?_⟩
  constructor
  · rintro ⟨rfl, rfl⟩; exact (hostR_yes hr).1
  · intro h
    rw [host_again h] at hr
    obtain ⟨h1, h2⟩ := Prod.mk.inj hr
    exact ⟨h2.symm, by rw [← h1]⟩

def fldsB (fs : List Fd) : Bool := fs.all fun f => fdB f && !ownB f.1.data.toList
theorem flds_at {fs : List Fd} {f : Fd} (hf : f ∈ fs) (h : fdB f = false ∨ ownB f.1.data.toList = true) : fldsB fs = false := by
  rw [Bool.eq_false_iff]; intro e
  unfold fldsB at e
  rw [List.all_eq_true] at e
  have := e f hf
  rcases h with h | h <;> simp [h] at this
theorem flds_snoc {fs : List Fd} {f : Fd} (h0 : fldsB fs = true) (h1 : fdB f = true) (h2 : ownB f.1.data.toList = false) : fldsB (fs ++ [f]) = true := by
  unfold fldsB at *
  rw [List.all_append, h0]
  simp [h1, h2]

end Go.Proofs.YtbhnjnoblkfckaaGreatDoor

-- from XMach
/- Places: the machine that takes a place byte by byte for what it means. -/
namespace Go.Proofs.YtbhnjnoblkfckaaGreatDoor
open Go.RowKit

def u8s (l : List UInt8) : List Value := l.map fun c => .int .u8 (c.toNat : Int)
theorem u8s_len (l : List UInt8) : (u8s l).length = l.length := by simp [u8s]
theorem u8s_at {l : List UInt8} {j : Nat} (hj : j < l.length) : (u8s l)[j]? = some (.int .u8 ((l[j]).toNat : Int)) := by simp [u8s, hj]
theorem u8s_app (l : List UInt8) (c : UInt8) : u8s (l ++ [c]) = u8s l ++ [.int .u8 (c.toNat : Int)] := by simp [u8s]

theorem Tryz.info5 : (Tryz.prog.info? 5).map (fun i => (i.zero, i.size, i.bytes)) = some (some (.int .u8 0), 1, 1) := by kernel_rfl

theorem set_at {w3 : World} {b n : Nat} {v v' : Value} {xs : List Value} {T e : TypeId} (hh : w3.heap[b]? = some (.cells #[v] T (0, 0))) (ho : w3.ownsRow (b + 1) e 1 v' n xs) :
    (w3.setCell ⟨b, 0, none⟩ v').heap[b]? = some (.cells #[v'] T (0, 0)) ∧ (w3.setCell ⟨b, 0, none⟩ v').ownsRow (b + 1) e 1 v' n xs := by
  have hg : w3.grownBy (w3.setCell ⟨b, 0, none⟩ v') (some b) := ⟨rfl, rfl, rfl, by simp, fun k _ hk => heap_setCell_other w3 ⟨b, 0, none⟩ k _ (fun e => hk (by simp [e]))⟩
  refine ⟨?_, ho.kept hg (.inr fun e => ?_)⟩
  · rw [heap_setCell_same w3 b 0 _ _ _ hh]; simp
  · have := (ho.lt b e).1; omega
theorem set_below {w w3 : World} {b : Nat} {v' : Value} (h : Below b w w3) : Below b w (w3.setCell ⟨b, 0, none⟩ v') :=
  ⟨h.os, h.tape, h.output, by simpa using h.size, fun k hk => (heap_setCell_other w3 ⟨b, 0, none⟩ k _ (by simp; omega)).trans (h.block k hk)⟩


inductive MS where | p | f | s
theorem u8_eq37 {c : UInt8} (h : c = 37) : ((c.toNat : Int) == 37) = true := by rw [h]; rfl
theorem u8_ne37 {c : UInt8} (h : c ≠ 37) : ((c.toNat : Int) == 37) = false := by
  rw [beq_eq_false_iff_ne]; intro h2
  exact h (UInt8.toNat_inj.mp (by have e : (37 : UInt8).toNat = 37 := rfl; omega))

def nextP (c : UInt8) : MS := if c = 37 then .f else .p

/-- What the machine holds: in its first state the bytes of what is read; ahead of an open code these, then the code's bytes. -/
def MInv (R : List UInt8) (st : MS) (ys l : List UInt8) : Prop :=
  match st with
  | .p => R = ys ++ meansL l
  | .f => ∃ xs, ys = xs ++ [37] ∧ R = xs ++ meansL (37 :: l)
  | .s => ∃ xs a x, hexV a = some x ∧ ys = xs ++ [37, a] ∧ R = xs ++ meansL (37 :: a :: l)

theorem minv_plain {R ys l : List UInt8} {c : UInt8} (h : R = ys ++ meansL (c :: l)) : MInv R (nextP c) (ys ++ [c]) l := by
  unfold nextP
  by_cases hc : c = 37
  · subst hc; rw [if_pos rfl]; exact ⟨ys, rfl, h⟩
  · rw [if_neg hc]
    show R = ys ++ [c] ++ meansL l
    rw [h, meansL_none (codeL_ne hc)]; simp
theorem minv_end {R ys : List UInt8} {st : MS} (h : MInv R st ys []) : R = ys := by
  cases st with
  | p => have h' : R = ys ++ meansL [] := h; rw [meansL_nil, List.append_nil] at h'; exact h'
  | f =>
    obtain ⟨xs, rfl, h⟩ := h
    rw [meansL_none rfl, meansL_nil] at h; exact h
  | s =>
    obtain ⟨xs, a, x, hx, rfl, h⟩ := h
    rw [meansL_none rfl, meansL_none (codeL_ne (hex_ne_37 hx)), meansL_nil] at h; exact h

theorem nib (x y : Nat) (hx : x < 16) (hy : y < 16) : bits .or .u8 ((x : Int) * 16) (y : Int) = ((x * 16 + y : Nat) : Int) := by
  have h : ∀ x y : Fin 16, bits .or .u8 ((x.val : Int) * 16) (y.val : Int) = ((x.val * 16 + y.val : Nat) : Int) := by decide +kernel
  exact h ⟨x, hx⟩ ⟨y, hy⟩

theorem u8s_two (xs : List UInt8) (a : UInt8) (k : Nat) (hk : k = xs.length) : (u8s (xs ++ [37, a]))[k + 1]? = some (.int .u8 (a.toNat : Int)) ∧ (u8s (xs ++ [37, a])).take k = u8s xs := by
  subst hk
  constructor
  · simp [u8s]
  · simp [u8s]

end Go.Proofs.YtbhnjnoblkfckaaGreatDoor

-- from XCan
/- Places: the machine that writes a place in its plainest form: its steps. -/
namespace Go.Proofs.YtbhnjnoblkfckaaGreatDoor
open Go.RowKit

/-- The form so far lies in the block b, its bytes in a row of the call's own behind it. -/
def CAt (w : World) (b : Nat) (ys : List UInt8) (seg : Nat) (res : Value) (high : Nat) : Prop :=
  ∃ v, w.heap[b]? = some (.cells #[v, .int .i64 (seg : Int), res, .int .u8 (high : Int)] 152 (0, 0)) ∧ w.ownsRow (b + 1) 5 1 v ys.length (u8s ys)

theorem CAt.lt {w : World} {b : Nat} {ys : List UInt8} {seg : Nat} {res : Value} {high : Nat} (h : CAt w b ys seg res high) : b < w.heap.size := by
  obtain ⟨v, hh, _⟩ := h; exact (Array.getElem?_eq_some_iff.1 hh).1

def pathV (b : Nat) : Value := .func (.func 140) #[.pointer (some ⟨b, 0, none⟩)] #[]
def queryV (b : Nat) : Value := .func (.func 142) #[.pointer (some ⟨b, 0, none⟩)] #[]

theorem grown_setC (w : World) (b k : Nat) (x : Value) : w.grownBy (w.setCell ⟨b, k, none⟩ x) (some b) := ⟨rfl, rfl, rfl, by simp, fun j _ hj => heap_setCell_other w ⟨b, k, none⟩ j _ (fun e => hj (by simp [e]))⟩
theorem below_setC {w w3 : World} {b k : Nat} {x : Value} (h : Below b w w3) : Below b w (w3.setCell ⟨b, k, none⟩ x) :=
  ⟨h.os, h.tape, h.output, by simpa using h.size, fun j hj => (heap_setCell_other w3 ⟨b, k, none⟩ j _ (by simp; omega)).trans (h.block j hj)⟩
theorem own_set {w : World} {b k n : Nat} {v x : Value} {e : TypeId} {xs : List Value} (h : w.ownsRow (b + 1) e 1 v n xs) : (w.setCell ⟨b, k, none⟩ x).ownsRow (b + 1) e 1 v n xs :=
  h.kept (grown_setC w b k x) (.inr fun e => by have := (h.lt b e).1; omega)

theorem CAt.set0 {w : World} {b n seg high : Nat} {v v' res : Value} {ys : List UInt8} (hh : w.heap[b]? = some (.cells #[v, .int .i64 (seg : Int), res, .int .u8 (high : Int)] 152 (0, 0))) (ho : w.ownsRow (b + 1) 5 1 v' n (u8s ys)) (hn : n = ys.length) : CAt (w.setCell ⟨b, 0, none⟩ v') b ys seg res high := by
  refine ⟨v', ?_, hn ▸ own_set ho⟩
  rw [heap_setCell_same w b 0 _ _ _ hh]; simp
theorem CAt.set1 {w : World} {b seg high : Nat} {res : Value} {ys : List UInt8} (h : CAt w b ys seg res high) (n : Nat) : CAt (w.setCell ⟨b, 1, none⟩ (.int .i64 (n : Int))) b ys n res high := by
  obtain ⟨v, hh, ho⟩ := h
  refine ⟨v, ?_, own_set ho⟩
  rw [heap_setCell_same w b 1 _ _ _ hh]; simp
theorem CAt.set2 {w : World} {b seg high : Nat} {res : Value} {ys : List UInt8} (h : CAt w b ys seg res high) (r : Value) : CAt (w.setCell ⟨b, 2, none⟩ r) b ys seg r high := by
  obtain ⟨v, hh, ho⟩ := h
  refine ⟨v, ?_, own_set ho⟩
  rw [heap_setCell_same w b 2 _ _ _ hh]; simp
theorem CAt.set3 {w : World} {b seg high : Nat} {res : Value} {ys : List UInt8} (h : CAt w b ys seg res high) (n : Nat) : CAt (w.setCell ⟨b, 3, none⟩ (.int .u8 (n : Int))) b ys seg res n := by
  obtain ⟨v, hh, ho⟩ := h
  refine ⟨v, ?_, own_set ho⟩
  rw [heap_setCell_same w b 3 _ _ _ hh]; simp

set_option maxHeartbeats 800000 in
theorem c_put (b : Nat) (ys : List UInt8) (seg high : Nat) (res next : Value) (c : UInt8) (w : World) (h : CAt w b ys seg res high) (hn : ys.length ≤ 1000) :
    Calls Tryz.prog 139 #[.pointer (some ⟨b, 0, none⟩), .int .u8 c.toNat, next] w fun e w' => e = .returned next ∧ CAt w' b (ys ++ [c]) seg res high ∧ Below b w w' := by
  obtain ⟨i0, hi, hz0, hz1, hz2⟩ := info_parts Tryz.info5
  have hlt := h.lt
  obtain ⟨v, hh, hown⟩ := h
  have c0 : w.cell? ⟨b, 0, none⟩ = some v := by simp [World.cell?, hh]
  have fin : ∀ (w3 : World) (v' : Value), w3.ownsRow (b + 1) 5 1 v' (ys.length + 1) (u8s ys ++ [.int .u8 (c.toNat : Int)]) → w3.heap[b]? = w.heap[b]? → Below b w w3 → CAt (w3.setCell ⟨b, 0, none⟩ v') b (ys ++ [c]) seg res high ∧ Below b w (w3.setCell ⟨b, 0, none⟩ v') := by
    intro w3 v' ho hh3 hb3
    rw [← u8s_app] at ho
    exact ⟨CAt.set0 (hh3.trans hh) ho (by simp), below_setC hb3⟩
  have hfz : w.frozen? ⟨b, 0, none⟩ = false := by simp [World.frozen?, hh]
  have HH := Lib.hid hh; clear hh
  go_enter Tryz.func139, Tryz.ntmps139
  go_wp2_with (at_builtin; go_must (refine wpList_append1 w rfl _ _ 53 rfl (b + 1) 5 i0 _ 1 Tryz.underlying53 hi hz0 hz1 hz2 rfl _ _ _ (by rfl) hown _ rfl _ (by rfl) (by unfold maxLen; omega) (by omega) hlt ?_); intro v' w3 ho3 hb3 hlt3; obtain ⟨g', cap', rfl⟩ := own_form ho3 (by omega); have hh3 := hb3.block b (by omega); have c3 : w3.cell? ⟨b, 0, none⟩ = some v := ((World.cell?_of_block (a := ⟨b, 0, none⟩) hh3).trans c0); have f3 : w3.frozen? ⟨b, 0, none⟩ = false := ((World.frozen?_of_block (a := ⟨b, 0, none⟩) hh3).trans hfz))
  go_ret
  obtain ⟨q1, q2⟩ := fin w3 _ ho3 hh3 (hb3.mono (by omega))
  exact ⟨rfl, q1, q2⟩

set_option maxHeartbeats 800000 in
theorem c_slash (b : Nat) (ys : List UInt8) (seg high : Nat) (res : Value) (w : World) (h : CAt w b ys seg res high) (hn : ys.length ≤ 1000) :
    Calls Tryz.prog 133 #[.pointer (some ⟨b, 0, none⟩)] w fun e w' => e = .returned (pathV b) ∧ CAt w' b (ys ++ [47]) (ys.length + 1) res high ∧ Below b w w' := by
  have c1 := c_put b ys seg high res (pathV b) 47 w h hn
  have hmf : ∀ (fn : Fn) (first cap : Array Value) (w : World), (Instr.makeFunc fn first cap).run Tryz.prog w = .ok (.func fn first cap) w := fun _ _ _ _ => rfl
  unfold pathV at *
  clear h
  go_enter Tryz.func133, Tryz.ntmps133
  go_wp2_with fail
  refine c1.mono ?_
  rintro e w1 ⟨rfl, hc, hb⟩
  clear c1
  have hc2 := hc
  obtain ⟨v, hh, ho⟩ := hc2
  have hlen : (ys ++ [47]).length = ys.length + 1 := by simp
  rw [hlen] at ho
  obtain ⟨g', cap', rfl⟩ := own_form ho (by omega)
  have k0 : w1.cell? ⟨b, 0, none⟩ = some (.slice (some ⟨g', 0, none⟩) (ys.length + 1) cap') := by simp [World.cell?, hh]
  have k1 : w1.cell? ⟨b, 1, none⟩ = some (.int .i64 (seg : Int)) := by simp [World.cell?, hh]
  have f1 : w1.frozen? ⟨b, 1, none⟩ = false := by simp [World.frozen?, hh]
  clear hh ho
  go_wp2
  go_ret
  exact ⟨rfl, hc.set1 (ys.length + 1), below_setC hb⟩

theorem c_escape (b : Nat) (ys : List UInt8) (seg high : Nat) (res : Value) (q : Bool) (w : World) (h : CAt w b ys seg res high) :
    Calls Tryz.prog 143 #[.pointer (some ⟨b, 0, none⟩), (if q then queryV b else pathV b)] w fun e w' => e = .returned (.func (.func 146) #[.pointer (some ⟨b, 0, none⟩)] #[]) ∧ CAt w' b ys seg (if q then queryV b else pathV b) high ∧ Below b w w' := by
  have hfin := fun r => h.set2 r
  obtain ⟨v, hh, ho⟩ := h
  have k2 : w.cell? ⟨b, 2, none⟩ = some res := by simp [World.cell?, hh]
  have f2 : w.frozen? ⟨b, 2, none⟩ = false := by simp [World.frozen?, hh]
  have hmf : ∀ (fn : Fn) (first cap : Array Value) (w : World), (Instr.makeFunc fn first cap).run Tryz.prog w = .ok (.func fn first cap) w := fun _ _ _ _ => rfl
  clear hh ho
  unfold pathV queryV at *
  cases q
  · simp only [Bool.false_eq_true, if_false]
    go_enter Tryz.func143, Tryz.ntmps143
    go_wp2
    go_ret
    exact ⟨rfl, hfin _, below_setC (Below.refl _ _)⟩
  · simp only [if_true]
    go_enter Tryz.func143, Tryz.ntmps143
    go_wp2
    go_ret
    exact ⟨rfl, hfin _, below_setC (Below.refl _ _)⟩
end Go.Proofs.YtbhnjnoblkfckaaGreatDoor

-- from XCan2
/- Places: the machine that writes a place in its plainest form: dots, paths, what is asked. -/
namespace Go.Proofs.YtbhnjnoblkfckaaGreatDoor
open Go.RowKit

set_option maxRecDepth 100000 in
set_option maxHeartbeats 1600000 in
theorem c_dotted (b : Nat) (ys : List UInt8) (seg high : Nat) (res : Value) (w : World) (h : CAt w b ys seg res high) (__hn : ys.length ≤ 1000) (h0 : 0 < ys.length) (hs : seg ≤ ys.length) :
    Calls Tryz.prog 134 #[.pointer (some ⟨b, 0, none⟩)] w fun e w' => e = .returned (.bool (dotL (ys.drop seg))) ∧ ∃ n, w' = w.drewN n := by
  obtain ⟨v, hh, hown⟩ := h
  obtain ⟨g, cap, rfl⟩ := own_form hown h0
  obtain ⟨hm1, hm2⟩ := own_max hown
  have k0 : w.cell? ⟨b, 0, none⟩ = some (.slice (some ⟨g, 0, none⟩) ys.length cap) := by simp [World.cell?, hh]
  have k1 : w.cell? ⟨b, 1, none⟩ = some (.int .i64 (seg : Int)) := by simp [World.cell?, hh]
  have hcv : ∀ W : World, (∀ a : Addr, W.cell? a = w.cell? a) → (convert 53 124 (.slice (if cap = seg then some ⟨g, 0, none⟩ else some ⟨g, seg, none⟩) (ys.length - seg) (cap - seg))).run Tryz.prog W = .ok (.string ⟨(ys.drop seg).toArray⟩) W := by
    intro W hW
    have hl : ys.length - seg = (ys.drop seg).length := by simp
    rw [hl]
    have key : ∀ o : Nat, (o = seg ∨ ys.length ≤ seg) → (convert 53 124 (.slice (some ⟨g, o, none⟩) (ys.drop seg).length (cap - seg))).run Tryz.prog W = .ok (.string ⟨(ys.drop seg).toArray⟩) W := by
      intro o ho
      refine run_convert_bytes_back (P := Tryz.prog) W 53 124 5 ⟨g, o, none⟩ (cap - seg) (ys.drop seg) Tryz.underlying53 Tryz.underlying5 Tryz.underlying124 (fun j hj => ?_)
      have hj2 : seg + j < ys.length := by simp at hj; omega
      obtain rfl : o = seg := by omega
      have hadd : (⟨g, o, none⟩ : Addr).add j = ⟨g, o + j, none⟩ := by unfold Addr.add; split <;> simp_all
      rw [hadd, hW, own_cell hown (u8s_at hj2), List.getElem_drop]
    by_cases hc : cap = seg
    · rw [if_pos hc]; exact key 0 (by omega)
    · rw [if_neg hc]; exact key seg (.inl rfl)
  have hcd := hcv w.drew (fun _ => rfl)
  have c1 := fun W => textcut ⟨(ys.drop seg).toArray⟩ 63 W (by rw [size_len]; unfold maxLen; simp; omega)
  simp only [UInt8.reduceToNat, Int.cast_ofNat_Int] at c1
  have hlen := (cutL_len (ys.drop seg) 63).1
  obtain ⟨R, hR⟩ : ∃ R, R = dotL (ys.drop seg) := ⟨_, rfl⟩
  rw [← hR]
  unfold dotL at hR
  clear hown hh hcv
  generalize cutL (ys.drop seg) 63 = r at *
  obtain ⟨p, r2, r3⟩ := r
  simp only at c1 hR
  generalize ByteArray.mk (ys.drop seg).toArray = os at *
  unfold isDots at hR
  rw [← toList_mk p] at hR
  generalize ByteArray.mk p.toArray = ps at *
  generalize hb1 : (ps.toList == [46]) = b1 at *
  generalize hb2 : (ps.toList == [46, 46]) = b2 at *
  have HR := Lib.hid hR; clear hR
  by_cases hcs : cap = seg
  · subst hcs
    rw [if_pos rfl, show ys.length - cap = 0 from by omega, show cap - cap = 0 from by omega] at hcd
    cases b1
    all_goals go_enter Tryz.func134, Tryz.ntmps134
    all_goals go_wp2_with fail
    all_goals go_region_with (go_at_call 132; refine (c1 _).mono ?_; rintro e w1 ⟨rfl, n1, rfl⟩)
    all_goals go_wp2
    all_goals go_ret
    all_goals exact ⟨by rw [HR.out]; rfl, 1 + n1, rfl⟩
  · rw [if_neg hcs] at hcd
    cases b1
    all_goals go_enter Tryz.func134, Tryz.ntmps134
    all_goals go_wp2_with fail
    all_goals go_region_with (go_at_call 132; refine (c1 _).mono ?_; rintro e w1 ⟨rfl, n1, rfl⟩)
    all_goals go_wp2
    all_goals go_ret
    all_goals exact ⟨by rw [HR.out]; rfl, 1 + n1, rfl⟩
end Go.Proofs.YtbhnjnoblkfckaaGreatDoor

