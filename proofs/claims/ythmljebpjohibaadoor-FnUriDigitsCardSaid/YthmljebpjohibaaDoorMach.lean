/- Places: the machine that takes a place byte by byte for what it means. -/
import Derived.Test.YthmljebpjohibaaDoorMeans
import Derived.Test.YthmljebpjohibaaDoorOwn2
namespace Go.Proofs.YthmljebpjohibaaDoor
open Go.RowKit

def u8s (l : List UInt8) : List Value := l.map fun c => .int .u8 (c.toNat : Int)
theorem u8s_len (l : List UInt8) : (u8s l).length = l.length := by simp [u8s]
theorem u8s_at {l : List UInt8} {j : Nat} (hj : j < l.length) : (u8s l)[j]? = some (.int .u8 ((l[j]).toNat : Int)) := by simp [u8s, hj]
theorem u8s_app (l : List UInt8) (c : UInt8) : u8s (l ++ [c]) = u8s l ++ [.int .u8 (c.toNat : Int)] := by simp [u8s]

theorem Tryd.info5 : (Tryd.prog.info? 5).map (fun i => (i.zero, i.size, i.bytes)) = some (some (.int .u8 0), 1, 1) := by kernel_rfl

/-- What is meant so far lies in the block b, its bytes in a row of the call's own behind it. -/
def MAt (w : World) (b : Nat) (ys : List UInt8) : Prop :=
  ∃ v, w.heap[b]? = some (.cells #[v] 52 (0, 0)) ∧ w.ownsRow (b + 1) 5 1 v ys.length (u8s ys)

theorem set_at {w3 : World} {b n : Nat} {v v' : Value} {xs : List Value} {T e : TypeId} (hh : w3.heap[b]? = some (.cells #[v] T (0, 0))) (ho : w3.ownsRow (b + 1) e 1 v' n xs) :
    (w3.setCell ⟨b, 0, none⟩ v').heap[b]? = some (.cells #[v'] T (0, 0)) ∧ (w3.setCell ⟨b, 0, none⟩ v').ownsRow (b + 1) e 1 v' n xs := by
  have hg : w3.grownBy (w3.setCell ⟨b, 0, none⟩ v') (some b) := ⟨rfl, rfl, rfl, by simp, fun k _ hk => heap_setCell_other w3 ⟨b, 0, none⟩ k _ (fun e => hk (by simp [e]))⟩
  refine ⟨?_, ho.kept hg (.inr fun e => ?_)⟩
  · rw [heap_setCell_same w3 b 0 _ _ _ hh]; simp
  · have := (ho.lt b e).1; omega
theorem set_below {w w3 : World} {b : Nat} {v' : Value} (h : Below b w w3) : Below b w (w3.setCell ⟨b, 0, none⟩ v') :=
  ⟨h.os, h.tape, h.output, by simpa using h.size, fun k hk => (heap_setCell_other w3 ⟨b, 0, none⟩ k _ (by simp; omega)).trans (h.block k hk)⟩


inductive MS where | p | f | s
def mV (b : Nat) : MS → Value
  | .p => .func (.func 39) #[.pointer (some ⟨b, 0, none⟩)] #[]
  | .f => .func (.func 54) #[.pointer (some ⟨b, 0, none⟩)] #[]
  | .s => .func (.func 74) #[.pointer (some ⟨b, 0, none⟩)] #[]

def MStep (b : Nat) (st : MS) (ys : List UInt8) (w : World) (e : Ending) (w' : World) : Prop := e = .returned (mV b st) ∧ MAt w' b ys ∧ Below b w w'

theorem u8_eq37 {c : UInt8} (h : c = 37) : ((c.toNat : Int) == 37) = true := by rw [h]; rfl
theorem u8_ne37 {c : UInt8} (h : c ≠ 37) : ((c.toNat : Int) == 37) = false := by
  rw [beq_eq_false_iff_ne]; intro h2
  exact h (UInt8.toNat_inj.mp (by have e : (37 : UInt8).toNat = 37 := rfl; omega))

def nextP (c : UInt8) : MS := if c = 37 then .f else .p

set_option maxHeartbeats 800000 in
theorem m_plain (b : Nat) (ys : List UInt8) (c : UInt8) (w : World) (h : MAt w b ys) (hn : ys.length ≤ 1048600) :
    Calls Tryd.prog 39 #[.pointer (some ⟨b, 0, none⟩), .int .u8 c.toNat] w (MStep b (nextP c) (ys ++ [c]) w) := by
  obtain ⟨i0, hi, hz0, hz1, hz2⟩ := info_parts Tryd.info5
  obtain ⟨v, hh, hown⟩ := h
  have hlt : b < w.heap.size := (Array.getElem?_eq_some_iff.1 hh).1
  have c0 : w.cell? ⟨b, 0, none⟩ = some v := by simp [World.cell?, hh]
  have hmf : ∀ (fn : Fn) (first cap : Array Value) (w : World), (Instr.makeFunc fn first cap).run Tryd.prog w = .ok (.func fn first cap) w := fun _ _ _ _ => rfl
  have fin : ∀ (w3 : World) (v' : Value), w3.ownsRow (b + 1) 5 1 v' (ys.length + 1) (u8s ys ++ [.int .u8 (c.toNat : Int)]) → w3.heap[b]? = some (.cells #[v] 52 (0, 0)) → Below b w w3 → MAt (w3.setCell ⟨b, 0, none⟩ v') b (ys ++ [c]) ∧ Below b w (w3.setCell ⟨b, 0, none⟩ v') := by
    intro w3 v' ho hh3 hb3
    obtain ⟨q1, q2⟩ := set_at hh3 ho
    exact ⟨⟨v', q1, by rw [u8s_app, List.length_append]; exact q2⟩, set_below hb3⟩
  have next : ∀ (c : UInt8), nextP c = if c = 37 then MS.f else MS.p := fun _ => rfl
  by_cases hc : c = 37
  · have hc' := u8_eq37 hc
    rw [next, if_pos hc]
    clear hc
    go_enter Tryd.func39, Tryd.ntmps39
    go_wp2_with (at_builtin; go_must (refine wpList_append1 w rfl _ _ 22 rfl (b + 1) 5 i0 _ 1 Tryd.underlying22 hi hz0 hz1 hz2 rfl _ _ _ (by rfl) hown _ rfl _ (by rfl) (by unfold maxLen; omega) (by omega) hlt ?_); intro v' w3 ho3 hb3 hlt3; obtain ⟨g', cap', rfl⟩ := own_form ho3 (by omega); have hh3 := (hb3.block b (by omega)).trans hh; have c3 : w3.cell? ⟨b, 0, none⟩ = some v := (by simp [World.cell?, hh3]); have f3 : w3.frozen? ⟨b, 0, none⟩ = false := (by simp [World.frozen?, hh3]))
    go_ret
    obtain ⟨q1, q2⟩ := fin w3 _ ho3 hh3 (hb3.mono (by omega))
    exact ⟨rfl, q1, q2⟩
  · have hc' := u8_ne37 hc
    rw [next, if_neg hc]
    clear hc
    go_enter Tryd.func39, Tryd.ntmps39
    go_wp2_with (at_builtin; go_must (refine wpList_append1 w rfl _ _ 22 rfl (b + 1) 5 i0 _ 1 Tryd.underlying22 hi hz0 hz1 hz2 rfl _ _ _ (by rfl) hown _ rfl _ (by rfl) (by unfold maxLen; omega) (by omega) hlt ?_); intro v' w3 ho3 hb3 hlt3; obtain ⟨g', cap', rfl⟩ := own_form ho3 (by omega); have hh3 := (hb3.block b (by omega)).trans hh; have c3 : w3.cell? ⟨b, 0, none⟩ = some v := (by simp [World.cell?, hh3]); have f3 : w3.frozen? ⟨b, 0, none⟩ = false := (by simp [World.frozen?, hh3]))
    go_ret
    obtain ⟨q1, q2⟩ := fin w3 _ ho3 hh3 (hb3.mono (by omega))
    exact ⟨rfl, q1, q2⟩

/-- What the machine holds: in its first state the bytes of what is read; ahead of an open code these, then the code's bytes. -/
def MInv (R : List UInt8) (st : MS) (ys l : List UInt8) : Prop :=
  match st with
  | .p => R = ys ++ meansL l
  | .f => ∃ xs, ys = xs ++ [37] ∧ R = xs ++ meansL (37 :: l)
  | .s => ∃ xs a x, hexV a = some x ∧ ys = xs ++ [37, a] ∧ R = xs ++ meansL (37 :: a :: l)

theorem minv_plain {R ys l : List UInt8} {c : UInt8} (h : R = ys ++ meansL (c :: l)) : MInv R (nextP c) (ys ++ [c]) l := by
  unfold nextP
  by_cases hc : c = 37
  · subst hc; rw [if_pos rfl]; exact ⟨ys, rfl, h⟩
  · rw [if_neg hc]
    show R = ys ++ [c] ++ meansL l
    rw [h, meansL_none (codeL_ne hc)]; simp
theorem minv_end {R ys : List UInt8} {st : MS} (h : MInv R st ys []) : R = ys := by
  cases st with
  | p => have h' : R = ys ++ meansL [] := h; rw [meansL_nil, List.append_nil] at h'; exact h'
  | f =>
    obtain ⟨xs, rfl, h⟩ := h
    rw [meansL_none rfl, meansL_nil] at h; exact h
  | s =>
    obtain ⟨xs, a, x, hx, rfl, h⟩ := h
    rw [meansL_none rfl, meansL_none (codeL_ne (hex_ne_37 hx)), meansL_nil] at h; exact h

set_option maxHeartbeats 800000 in
theorem m_first (b : Nat) (R xs l : List UInt8) (c : UInt8) (w : World) (h : MAt w b (xs ++ [37])) (hn : (xs ++ [37]).length ≤ 1048590) (hR : R = xs ++ meansL (37 :: c :: l)) :
    Calls Tryd.prog 54 #[.pointer (some ⟨b, 0, none⟩), .int .u8 c.toNat] w (fun e w' => ∃ st, MStep b st (xs ++ [37] ++ [c]) w e w' ∧ MInv R st (xs ++ [37] ++ [c]) l) := by
  cases hc : hexV c with
  | none =>
    have hR' : R = (xs ++ [37]) ++ meansL (c :: l) := by rw [hR, meansL_none (codeL_37_none hc)]; simp
    have hnext := minv_plain hR'
    have c1 := fun W => hex_value_none c hc W
    have c2 := m_plain b (xs ++ [37]) c w h (by omega)
    clear hc hR hR' h
    go_enter Tryd.func54, Tryd.ntmps54
    go_wp2_with fail
    refine (c1 _).mono ?_
    rintro e w' ⟨rfl, rfl⟩
    go_wp2_with fail
    refine c2.mono ?_
    rintro e w' ⟨rfl, q1, q2⟩
    generalize nextP c = st at *
    cases st
    all_goals go_wp2
    all_goals go_ret
    all_goals exact ⟨_, ⟨rfl, q1, q2⟩, hnext⟩
  | some x =>
    have hnext : MInv R .s (xs ++ [37] ++ [c]) l := ⟨xs, c, x, hc, by simp, hR⟩
    have c1 := fun W => hex_value_some c x hc W
    obtain ⟨i0, hi, hz0, hz1, hz2⟩ := info_parts Tryd.info5
    obtain ⟨v, hh, hown⟩ := h
    have hlt : b < w.heap.size := (Array.getElem?_eq_some_iff.1 hh).1
    have c0 : w.cell? ⟨b, 0, none⟩ = some v := by simp [World.cell?, hh]
    have hmf : ∀ (fn : Fn) (first cap : Array Value) (w : World), (Instr.makeFunc fn first cap).run Tryd.prog w = .ok (.func fn first cap) w := fun _ _ _ _ => rfl
    have fin : ∀ (w3 : World) (v' : Value), w3.ownsRow (b + 1) 5 1 v' ((xs ++ [37]).length + 1) (u8s (xs ++ [37]) ++ [.int .u8 (c.toNat : Int)]) → w3.heap[b]? = some (.cells #[v] 52 (0, 0)) → Below b w w3 → MAt (w3.setCell ⟨b, 0, none⟩ v') b (xs ++ [37] ++ [c]) ∧ Below b w (w3.setCell ⟨b, 0, none⟩ v') := by
      intro w3 v' ho hh3 hb3
      obtain ⟨q1, q2⟩ := set_at hh3 ho
      exact ⟨⟨v', q1, by rw [u8s_app, List.length_append]; exact q2⟩, set_below hb3⟩
    clear hc hR
    have HN := Lib.hid hnext; clear hnext
    generalize (xs ++ [37]) = ys at *
    go_enter Tryd.func54, Tryd.ntmps54
    go_wp2_with fail
    refine (c1 _).mono ?_
    rintro e w' ⟨rfl, rfl⟩
    go_wp2_with (at_builtin; go_must (refine wpList_append1 w rfl _ _ 22 rfl (b + 1) 5 i0 _ 1 Tryd.underlying22 hi hz0 hz1 hz2 rfl _ _ _ (by rfl) hown _ rfl _ (by rfl) (by unfold maxLen; omega) (by omega) hlt ?_); intro v' w3 ho3 hb3 hlt3; obtain ⟨g', cap', rfl⟩ := own_form ho3 (by omega); have hh3 := (hb3.block b (by omega)).trans hh; have c3 : w3.cell? ⟨b, 0, none⟩ = some v := (by simp [World.cell?, hh3]); have f3 : w3.frozen? ⟨b, 0, none⟩ = false := (by simp [World.frozen?, hh3]))
    go_ret
    obtain ⟨q1, q2⟩ := fin w3 _ ho3 hh3 (hb3.mono (by omega))
    exact ⟨.s, ⟨rfl, q1, q2⟩, HN.out⟩


theorem nib (x y : Nat) (hx : x < 16) (hy : y < 16) : bits .or .u8 ((x : Int) * 16) (y : Int) = ((x * 16 + y : Nat) : Int) := by
  have h : ∀ x y : Fin 16, bits .or .u8 ((x.val : Int) * 16) (y.val : Int) = ((x.val * 16 + y.val : Nat) : Int) := by decide +kernel
  exact h ⟨x, hx⟩ ⟨y, hy⟩

theorem u8s_two (xs : List UInt8) (a : UInt8) (k : Nat) (hk : k = xs.length) : (u8s (xs ++ [37, a]))[k + 1]? = some (.int .u8 (a.toNat : Int)) ∧ (u8s (xs ++ [37, a])).take k = u8s xs := by
  subst hk
  constructor
  · simp [u8s]
  · simp [u8s]

set_option maxHeartbeats 1600000 in
theorem m_second (b : Nat) (R xs l : List UInt8) (a c : UInt8) (x : Nat) (hx : hexV a = some x) (w : World) (h : MAt w b (xs ++ [37, a])) (hn : xs.length ≤ 1048590) (hR : R = xs ++ meansL (37 :: a :: c :: l)) :
    Calls Tryd.prog 74 #[.pointer (some ⟨b, 0, none⟩), .int .u8 c.toNat] w (fun e w' => ∃ st ys, MStep b st ys w e w' ∧ MInv R st ys l ∧ ys.length ≤ xs.length + 3) := by
  cases hc : hexV c with
  | none =>
    have hR' : R = (xs ++ [37, a]) ++ meansL (c :: l) := by rw [hR, meansL_none (codeL_37_none2 hc), meansL_none (codeL_ne (hex_ne_37 hx))]; simp
    have hnext := minv_plain hR'
    have hlen : (xs ++ [37, a] ++ [c]).length ≤ xs.length + 3 := by simp
    have hn2 : (xs ++ [37, a]).length ≤ 1048600 := by simp; omega
    have c1 := fun W => hex_value_none c hc W
    have c2 := m_plain b (xs ++ [37, a]) c w h hn2
    clear hc hR hR' h hx
    go_enter Tryd.func74, Tryd.ntmps74
    go_wp2_with fail
    refine (c1 _).mono ?_
    rintro e w' ⟨rfl, rfl⟩
    go_wp2_with fail
    refine c2.mono ?_
    rintro e w' ⟨rfl, q1, q2⟩
    generalize nextP c = st at *
    cases st
    all_goals go_wp2
    all_goals go_ret
    all_goals exact ⟨_, _, ⟨rfl, q1, q2⟩, hnext, hlen⟩
  | some y =>
    have hnext : MInv R .p (xs ++ [UInt8.ofNat (x * 16 + y)]) l := by
      show R = xs ++ [UInt8.ofNat (x * 16 + y)] ++ meansL l
      rw [hR, meansL_some (codeL_37_some hx hc)]; simp
    have hx16 := hexV_lt hx
    have hy16 := hexV_lt hc
    have c1 := fun W => hex_value_some c y hc W
    have c2 := fun W => hex_value_some a x hx W
    obtain ⟨i0, hi, hz0, hz1, hz2⟩ := info_parts Tryd.info5
    obtain ⟨v, hh, hown⟩ := h
    have hlt : b < w.heap.size := (Array.getElem?_eq_some_iff.1 hh).1
    have hmf : ∀ (fn : Fn) (first cap : Array Value) (w : World), (Instr.makeFunc fn first cap).run Tryd.prog w = .ok (.func fn first cap) w := fun _ _ _ _ => rfl
    obtain ⟨n, hnn⟩ : ∃ n, n = xs.length := ⟨_, rfl⟩
    have hlen2 : (xs ++ [37, a]).length = n + 2 := by simp [hnn]
    rw [hlen2] at hown
    obtain ⟨hu1, hu2⟩ := u8s_two xs a n hnn
    obtain ⟨g, cap, rfl⟩ := own_form hown (by omega)
    obtain ⟨hcap, hcap2⟩ := own_max hown
    have c0 : w.cell? ⟨b, 0, none⟩ = some (.slice (some ⟨g, 0, none⟩) (n + 2) cap) := by simp [World.cell?, hh]
    have cA := own_cell hown hu1
    have hcut := own_take hown (k := n) (by omega)
    rw [hu2] at hcut
    have hz : (UInt8.ofNat (x * 16 + y)).toNat = x * 16 + y := by simp; omega
    have fin : ∀ (w3 : World) (v v' : Value), w3.ownsRow (b + 1) 5 1 v' (n + 1) (u8s xs ++ [.int .u8 ((x * 16 + y : Nat) : Int)]) → w3.heap[b]? = some (.cells #[v] 52 (0, 0)) → Below b w w3 → MAt (w3.setCell ⟨b, 0, none⟩ v') b (xs ++ [UInt8.ofNat (x * 16 + y)]) ∧ Below b w (w3.setCell ⟨b, 0, none⟩ v') := by
      intro w3 v v' ho hh3 hb3
      obtain ⟨q1, q2⟩ := set_at hh3 ho
      refine ⟨⟨v', q1, ?_⟩, set_below hb3⟩
      rw [u8s_app, List.length_append, hz, ← hnn]; exact q2
    have hlen : (xs ++ [UInt8.ofNat (x * 16 + y)]).length ≤ xs.length + 3 := by simp
    have hnib := nib x y hx16 hy16
    have HN := Lib.hid hnext; have HL := Lib.hid hlen; have HH := Lib.hid hh
    have hn2 : n ≤ 1048590 := by omega
    clear hc hR hx hnext hlen hz hu1 hu2 hnn hlen2 hown hh hn
    generalize UInt8.ofNat (x * 16 + y) = z at *
    go_enter Tryd.func74, Tryd.ntmps74
    go_wp2_with fail
    refine (c1 _).mono ?_
    rintro e w' ⟨rfl, rfl⟩
    go_wp2_with fail
    refine (c2 _).mono ?_
    rintro e w' ⟨rfl, rfl⟩
    clear c1 c2
    go_wp2_with (at_builtin; go_must (refine wpList_append1 w rfl _ _ 22 rfl (b + 1) 5 i0 _ 1 Tryd.underlying22 hi hz0 hz1 hz2 rfl _ _ _ (by rfl) hcut _ rfl _ (by rfl) (by unfold maxLen; omega) (by omega) hlt ?_); intro v' w3 ho3 hb3 hlt3; obtain ⟨g', cap', rfl⟩ := own_form ho3 (by omega); have hh3 := (hb3.block b (by omega)).trans HH.out; have c3 : w3.cell? ⟨b, 0, none⟩ = some _ := (by simp only [World.cell?, hh3]; rfl); have f3 : w3.frozen? ⟨b, 0, none⟩ = false := (by simp [World.frozen?, hh3]))
    go_ret
    obtain ⟨q1, q2⟩ := fin w3 _ _ ho3 hh3 (hb3.mono (by omega))
    exact ⟨.p, _, ⟨rfl, q1, q2⟩, HN.out, HL.out⟩
end Go.Proofs.YthmljebpjohibaaDoor
