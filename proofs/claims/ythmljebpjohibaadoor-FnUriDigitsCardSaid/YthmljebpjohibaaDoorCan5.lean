/- Places: the machine that writes a place in its plainest form: the second digit of a code. -/
import Derived.Test.YthmljebpjohibaaDoorCan3
import Derived.Test.YthmljebpjohibaaDoorUpper
import Derived.Deep.RegionLaw
namespace Go.Proofs.YthmljebpjohibaaDoor
open Go.RowKit

/-- append on a row of the call's own, as one step of a region that draws. -/
theorem step_append_own {P : Program} {ops : Array Oper} {o : Oper} {a : Act} {w : World} {K : Act → World → Prop} {Q : Exit → Act → World → Prop} {E : Prop}
    (hg : o.guard = none) (s x : Operand) (t : TypeId) (hop : o.op = Op.call { callee := Callee.builtin Builtin.append, args := #[s, x], argTypes := #[t, t] })
    (base : Nat) (e : TypeId) (i : TypeInfo) (z : Value) (size bytes : Nat) (h1 : P.underlying t = some (.slice e)) (h2 : P.info? e = some i) (h3 : i.zero = some z) (h4 : i.size = size) (h5 : i.bytes = bytes) (h6 : z.cells.size = size) (h7 : 0 < size)
    (v : Value) (n : Nat) (xs : List Value) (hs : a.eval s = v) (hown : w.ownsRow base e size v n xs)
    (ad : Addr) (m c : Nat) (news : List Value) (hx : a.eval x = .slice (some ad) m c) (hn : news.length = m * size) (hc : ∀ j u, news[j]? = some u → w.cell? (ad.add j) = some u) (h1c : ∀ u ∈ news, u.oneCell' = true)
    (b1 : n + m ≤ maxLen) (b2 : (n + m) * bytes ≤ 140737488355328) (hbase : base ≤ w.heap.size)
    (hK : ∀ v' w', w'.ownsRow base e size v' (n + m) (xs ++ news) → w.grownBy w' v.ownBlock → K (a.put o.dst v') w') :
    if Region.wanted o (yielded ops a.tmps) = true then Oper.wp P o a w K Q else E := by
  have hw : Region.wanted o (yielded ops a.tmps) = true := by simp [Region.wanted, hg]
  rw [if_pos hw]
  obtain ⟨v', w', hrun, r1, r2, _⟩ := run_append_own (P := P) w base t o.type e i z size bytes h1 h2 h3 h4 h5 h6 h7 v n xs hown ad m c news hn hc h1c b1 b2 hbase
  unfold Oper.wp
  simp [execOp, hop, resolve, invoke, builtin, hs, hx, hrun, Result.andThen]
  exact hK v' w' r1 r2

theorem doubt_idx (n : Nat) (hn : n < 256) : decide (0 ≤ Lib.indexByte [46, 47, 63, 37, 38, 61] (UInt8.ofNat n)) = doubtB n := by
  have h : ∀ n : Fin 256, decide (0 ≤ Lib.indexByte [46, 47, 63, 37, 38, 61] (UInt8.ofNat n.val)) = doubtB n.val := by decide +kernel
  exact h ⟨n, hn⟩
theorem hexU_ne (k : Nat) (hk : k < 16) : hexU k ≠ 47 ∧ hexU k ≠ 63 := by
  have h : ∀ k : Fin 16, hexU k.val ≠ 47 ∧ hexU k.val ≠ 63 := by decide
  exact h ⟨k, hk⟩
theorem undoubt {n : Nat} (h : doubtB n = false) : n ≠ 47 ∧ n ≠ 63 := by
  constructor
  · rintro rfl; revert h; decide
  · rintro rfl; revert h; decide
theorem ofNat_ne {n k : Nat} (hn : n < 256) (hk : k < 256) (h : n ≠ k) : UInt8.ofNat n ≠ UInt8.ofNat k := by
  intro e
  have := congrArg UInt8.toNat e
  simp at this; omega
theorem cbase_code {q : Bool} {R : Option (List UInt8)} {ys l : List UInt8} {seg x y : Nat} {a c : UInt8} (h : CBase q R ys seg (37 :: a :: c :: l)) (ha : hexV a = some x) (hc : hexV c = some y) (hd : doubtB (x * 16 + y) = false) : CBase q R (ys ++ putC (x * 16 + y)) seg l := by
  have hx := hexV_lt ha
  have hy := hexV_lt hc
  obtain ⟨d1, d2⟩ := undoubt hd
  cases q with
  | true =>
    obtain ⟨h1, h2⟩ := h
    rw [resQ_code h1 ha hc, hd] at h2
    exact ⟨h1.app _, by simpa using h2⟩
  | false =>
    obtain ⟨h1, h2⟩ := h
    rw [resP_code h1 ha hc, hd] at h2
    refine ⟨h1.app _ ?_ ?_, by simpa using h2⟩
    · unfold putC
      split
      · simpa using (ofNat_ne (k := 47) (by omega) (by decide) d1).symm
      · have u1 := hexU_ne ((x * 16 + y) / 16) (by omega)
        have u2 := hexU_ne ((x * 16 + y) % 16) (by omega)
        simp only [upperL, List.mem_cons, List.not_mem_nil, or_false, not_or]
        exact ⟨by decide, u1.1.symm, u2.1.symm⟩
    · unfold putC
      split
      · simpa using (ofNat_ne (k := 63) (by omega) (by decide) d2).symm
      · have u1 := hexU_ne ((x * 16 + y) / 16) (by omega)
        have u2 := hexU_ne ((x * 16 + y) % 16) (by omega)
        simp only [upperL, List.mem_cons, List.not_mem_nil, or_false, not_or]
        exact ⟨by decide, u1.2.symm, u2.2.symm⟩
theorem cbase_doubt {q : Bool} {R : Option (List UInt8)} {ys l : List UInt8} {seg x y : Nat} {a c : UInt8} (h : CBase q R ys seg (37 :: a :: c :: l)) (ha : hexV a = some x) (hc : hexV c = some y) (hd : doubtB (x * 16 + y) = true) : R = none := by
  cases q with
  | true =>
    obtain ⟨h1, h2⟩ := h
    rw [resQ_code h1 ha hc, hd] at h2; simpa using h2
  | false =>
    obtain ⟨h1, h2⟩ := h
    rw [resP_code h1 ha hc, hd] at h2; simpa using h2
theorem cbase_bad {q : Bool} {R : Option (List UInt8)} {ys l : List UInt8} {seg x : Nat} {a c : UInt8} (h : CBase q R ys seg (37 :: a :: c :: l)) (ha : hexV a = some x) (hc : hexV c = none) : R = none := by
  cases q with
  | true => obtain ⟨h1, h2⟩ := h; rw [h2, resQ_bad2 hc]
  | false => obtain ⟨h1, h2⟩ := h; rw [h2, resP_bad2 ha hc]
def bkS : Bool → CS
  | true => .query
  | false => .path
theorem cV_bk (b : Nat) (q : Bool) : cV b (bkS q) = bkV b q := by cases q <;> rfl
theorem res_bk (b : Nat) (q : Bool) : resOf b (bkS q) = .nilFunc := by cases q <;> rfl
theorem bk_ne (q : Bool) : bkS q ≠ .root := by cases q <;> (intro h; cases h)
theorem cinv_bk {q : Bool} {R : Option (List UInt8)} {ys l : List UInt8} {seg high : Nat} (h : CBase q R ys seg l) : CInv R (bkS q) ys seg high l := by cases q <;> exact h

set_option maxHeartbeats 1600000 in
theorem s_d2_bad (b : Nat) (q : Bool) (R : Option (List UInt8)) (ys l : List UInt8) (a c : UInt8) (seg x : Nat) (w : World) (h : CAt w b ys seg (bkV b q) x) (ha : hexV a = some x) (hR : CBase q R ys seg (37 :: a :: c :: l)) (hc : hexV c = none) :
    Calls Tryd.prog 92 #[.pointer (some ⟨b, 0, none⟩), .int .u8 c.toNat] w (CNext b R ys.length l w) := by
  have HN := Lib.hid (cbase_bad hR ha hc)
  have hx16 := hexV_lt ha
  have c1 := fun W => hex_value_none c hc W
  have hn0 : bits .or .u8 ((x : Int) * 16) 0 = ((x * 16 : Nat) : Int) := by have := nib x 0 hx16 (by decide); simpa using this
  obtain ⟨v, hh, ho⟩ := h
  have k3 : w.cell? ⟨b, 3, none⟩ = some (.int .u8 (x : Int)) := by simp [World.cell?, hh]
  clear hR hc ha hh ho
  go_enter Tryd.func92, Tryd.ntmps92
  go_wp2_with fail
  refine (c1 _).mono ?_
  rintro e w' ⟨rfl, rfl⟩
  go_wp2
  go_ret
  exact .inl ⟨rfl, HN.out, Below.refl _ _⟩

set_option maxHeartbeats 1600000 in
theorem s_d2_doubt (b : Nat) (q : Bool) (R : Option (List UInt8)) (ys l : List UInt8) (a c : UInt8) (seg x y : Nat) (w : World) (h : CAt w b ys seg (bkV b q) x) (ha : hexV a = some x) (hR : CBase q R ys seg (37 :: a :: c :: l)) (hc : hexV c = some y) (hd : doubtB (x * 16 + y) = true) :
    Calls Tryd.prog 92 #[.pointer (some ⟨b, 0, none⟩), .int .u8 c.toNat] w (CNext b R ys.length l w) := by
  have HN := Lib.hid (cbase_doubt hR ha hc hd)
  have hx16 := hexV_lt ha
  have hy16 := hexV_lt hc
  have c1 := fun W => hex_value_some c y hc W
  have hnib := nib x y hx16 hy16
  have hnn : (UInt8.ofNat (x * 16 + y)).toNat = x * 16 + y := by simp; omega
  have c2 := fun W => idx ⟨#[46, 47, 63, 37, 38, 61]⟩ (UInt8.ofNat (x * 16 + y)) W
  rw [hnn] at c2
  have hI := doubt_idx (x * 16 + y) (by omega)
  rw [hd, decide_eq_true_iff] at hI
  have e0 : (ByteArray.mk #[46, 47, 63, 37, 38, 61]).data.toList = [46, 47, 63, 37, 38, 61] := rfl
  rw [e0] at c2
  generalize Lib.indexByte [46, 47, 63, 37, 38, 61] (UInt8.ofNat (x * 16 + y)) = I at *
  obtain ⟨v, hh, ho⟩ := h
  have k3 : w.cell? ⟨b, 3, none⟩ = some (.int .u8 (x : Int)) := by simp [World.cell?, hh]
  have hn256 : x * 16 + y < 256 := by omega
  clear hR hc ha hh ho hnn hd e0
  generalize x * 16 + y = n at *
  go_enter Tryd.func92, Tryd.ntmps92
  go_wp2_with fail
  refine (c1 _).mono ?_
  rintro e w' ⟨rfl, rfl⟩
  go_wp2_with fail
  refine (c2 _).mono ?_
  rintro e w' ⟨rfl, rfl⟩
  go_wp2
  go_ret
  exact .inl ⟨rfl, HN.out, Below.refl _ _⟩
end Go.Proofs.YthmljebpjohibaaDoor
