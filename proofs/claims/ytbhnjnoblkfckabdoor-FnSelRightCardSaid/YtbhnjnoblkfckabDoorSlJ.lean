/- Walks: seals, by the program: the iterator over what is mixed in, and the fold over it. -/
import Derived.Test.YtbhnjnoblkfckabDoorSlI
namespace Go.Proofs.YtbhnjnoblkfckabDoor
open Go.RowKit Go.Shelf
attribute [local go_sem] Oper.semAt_some

/-- All cells but one block's stay. -/
def CellsBut (mb : Nat) (W W' : World) : Prop := W.heap.size ≤ W'.heap.size ∧ ∀ j cs T f, j ≠ mb → W.heap[j]? = some (.cells cs T f) → W'.heap[j]? = some (.cells cs T f)
theorem CellsBut.trans {mb : Nat} {X Y Z : World} (h : CellsBut mb X Y) (k : CellsBut mb Y Z) : CellsBut mb X Z := ⟨Nat.le_trans h.1 k.1, fun j cs T f hj hx => k.2 j cs T f hj (h.2 j cs T f hj hx)⟩
theorem CellsBut.put {mb : Nat} (X : World) (q : Nat) (r r' : Loop) (h : X.heap[q]? = some (.loop r)) : CellsBut mb X (X.putObj q (.loop r')) := by
  refine ⟨by simp, fun j cs T f hj hx => ?_⟩
  by_cases e : j = q
  · subst e; rw [h] at hx; cases hx
  · rw [World.putObj_heap_other e]; exact hx
/-- What the iterator reads. -/
def SlFact (kb sb mb : Nat) (key : Int) (s : Sl) (W : World) : Prop :=
  mb < W.heap.size ∧ sb ≠ mb ∧ W.cell? ⟨kb, 0, none⟩ = some (.int .i64 key) ∧ W.heap[sb]? = some (.cells #[.string s.path, .bool s.under, .int .i64 s.til, .int .i64 s.nonce, .int .i64 s.code] 29 (0, 0))
set_option maxRecDepth 100000 in
set_option maxHeartbeats 3200000 in
theorem seal_seq (n : Nat) (hn : 1 ≤ n) (key : Int) (s : Sl) (kb sb mb : Nat) (hk : 1 ≤ key ∧ key ≤ 9999) (hp : s.path.size ≤ 40) :
    CntSeqK Fence.wide n Tryd.prog 28 #[.pointer (some ⟨kb, 0, none⟩), .pointer (some ⟨sb, 0, none⟩)] (fun k => #[.int .i64 ((partS key s.path.data.toList s.under s.til s.nonce).getD k 0)])
      (fun _ W => SlFact kb sb mb key s W) (s.path.size + 7) (CellsBut mb) := by
  intro l J Jx W hJ hJx hFact hY h0
  have hro : Fence.wide.round = none := rfl
  obtain ⟨hk1, hk2⟩ := hk
  refine callsIn_of_wp Tryd.func28 rfl trivial ?_ hro
  simp only [Tryd.ntmps28, List.size_toArray, List.length_cons, List.length_nil, Nat.reduceAdd, Nat.reduceSub, Array.replicate_succ, Array.replicate_zero, List.push_toArray, List.append_toArray, List.nil_append, List.cons_append]
  obtain ⟨hmb, -, c0, -⟩ := hFact 0 W h0
  obtain ⟨fn, tmps, assign, body, hy, hR⟩ := hY 0 W (by omega) h0
  replace hy : (Instr.yield l #[.int .i64 key]).run Tryd.prog W = .ok (.round l fn tmps assign body) W := hy
  have HFa := Lib.hid hFact
  have HY := Lib.hid hY
  have HJ := Lib.hid hJ
  clear hFact hY hJ hJx h0
  gi_wp2
  refine hR.mono ?_
  rintro e W3 (⟨rfl, hJ3, hK3⟩ | ⟨rfl, hJ3⟩)
  rotate_left
  · have HJx := Lib.hid hJ3
    clear hJ3 hR hy c0
    gi_wp2
    refine ⟨(fun f h => by cases h), ?_⟩
    rename_i hx
    clear hx
    gi_wp2
    refine bodyPost_ret (results_none rfl _ _ _) rfl ?_
    exact ⟨⟨_, rfl⟩, .inr ⟨1, by omega, HJx.out⟩⟩
  obtain ⟨hmb3, -, c1, -⟩ := HFa.out _ W3 hJ3
  obtain ⟨fn2, tmps2, assign2, body2, hy2, hR2⟩ := HY.out _ W3 (by omega) hJ3
  replace hy2 : (Instr.yield l #[.int .i64 (key / 3)]).run Tryd.prog W3 = .ok (.round l fn2 tmps2 assign2 body2) W3 := hy2
  clear hy hR c0 hJ3
  gi_wp2
  refine hR2.mono ?_
  rintro e W4 (⟨rfl, hJ4, hK4⟩ | ⟨rfl, hJ4⟩)
  rotate_left
  · have HJx := Lib.hid hJ4
    clear hJ4 hR2 hy2 c1
    gi_wp2
    refine bodyPost_ret (results_none rfl _ _ _) rfl ?_
    exact ⟨⟨_, rfl⟩, .inr ⟨2, by omega, HJx.out⟩⟩
  obtain ⟨hmb4, -, c2, s2⟩ := HFa.out _ W4 hJ4
  obtain ⟨p0, -, -, -, -⟩ := sl_facts s2
  have hz4 : W.heap.size ≤ W4.heap.size := Nat.le_trans hK3.1 hK4.1
  have HJ4 := Lib.hid hJ4
  clear hy2 hR2 c1 hJ4 s2
  gi_wp2
  gi_loopw [4, 21] (fun _ i wr => ∃ k : Nat, k ≤ s.path.size ∧ i = .int .i64 k ∧ J (k + 2) wr ∧ W.heap.size ≤ wr.heap.size) (fun _ i _ => s.path.size - (intOf i).toNat)
  case atStart => exact ⟨0, Nat.zero_le _, rfl, HJ4.out, hz4⟩
  case round =>
    obtain ⟨k, hkk, rfl, hJr, hzr⟩ := hrel
    obtain ⟨-, -, -, s3⟩ := HFa.out _ wr hJr
    by_cases hlt : k < s.path.size
    · obtain ⟨p0, -, -, -, -⟩ := sl_facts s3
      obtain ⟨fn3, tmps3, assign3, body3, hy3, hR3⟩ := HY.out _ wr (by omega) hJr
      rw [parts_mid key s.under s.til s.nonce hlt] at hy3
      have h8 := (s.path[k]).toNat_lt
      clear hJr s3
      gi_wp2
      refine hR3.mono ?_
      rintro e W5 (⟨rfl, hJ5, hK5⟩ | ⟨rfl, hJ5⟩)
      · have HJ5 := Lib.hid (And.intro hJ5 (Nat.le_trans hzr hK5.1))
        clear hJ5 hK5 hR3 hy3 p0 hzr
        gi_wp2
        go_roundw
        case rel => exact ⟨k + 1, by omega, by go_num, HJ5.out.1, HJ5.out.2⟩
        case measure => simp [intOf]; omega
      · have HJx := Lib.hid hJ5
        clear hJ5 hR3 hy3 p0 hzr
        gi_wp2
        refine bodyPost_ret (results_none rfl _ _ _) rfl ?_
        exact ⟨⟨_, rfl⟩, .inr ⟨k + 3, by omega, HJx.out⟩⟩
    · obtain rfl : k = s.path.size := by omega
      have hA : ∀ W', Below wr.heap.size wr W' → J (s.path.size + 2) W' := fun W' hb => HJ.out _ _ _ none hJr (grown_of_below hb none) (fun r e => by cases e)
      have HA := Lib.hid hA
      clear hJr hA
      have HS : Hid (∀ W', Below wr.heap.size wr W' → W'.heap[sb]? = some (.cells #[.string s.path, .bool s.under, .int .i64 s.til, .int .i64 s.nonce, .int .i64 s.code] 29 (0, 0))) := Lib.hid fun W' hb => (hb.block sb (Array.getElem?_eq_some_iff.1 s3).1).trans s3
      have HKc : Hid (∀ W', Below wr.heap.size wr W' → W'.cell? ⟨kb, 0, none⟩ = some (.int .i64 key)) := Lib.hid fun W' hb => (HFa.out _ W' (HA.out W' hb)).2.2.1
      have hmbz := hmb
      clear s3
      gi_wp2
      refine wpIn_region_all (by kernel_rfl) 15 (by kernel_rfl) (by kernel_rfl)
        (fun z => { tmps := #[.func (.yield l) #[] #[], .pointer (some ⟨kb, 0, none⟩), .pointer (some ⟨sb, 0, none⟩), undef, u4, undef, undef, .func (.yield l) #[] #[], .int .i64 key, .bool true, .bool false, .bool false, .func (.yield l) #[] #[], .int .i64 key, .int .i64 (key / 3), .bool true, .bool false, .bool false, .pointer (some ⟨sb, 0, none⟩), .string s.path, .int .i64 (s.path.size : Int), .int .i64 (s.path.size : Int), .bool false, u23, u24, u25, u26, u27, u28, u29, u30, u31, u32, z 0, z 1, z 2, z 3, z 4, z 5, z 6, z 7, z 8, z 9, z 10, z 11, z 12, z 13, z 14, undef, undef, undef, undef, undef, undef, undef, undef], defers := [] })
        (fun _ w7 => Below wr.heap.size wr w7)
        (fun i z w7 => match i with
          | 0 => z = .pointer (some ⟨sb, 0, none⟩)
          | 1 => z = .string s.path
          | 2 => z = .int .i64 (s.path.size : Int)
          | 3 => z = .pointer (some ⟨sb, 1, none⟩)
          | 4 => z = .bool s.under
          | 5 => z = .agg #[.string (txS s.under), .int .i64 (numS s.under)]
          | 6 => z = .int .i64 (numS s.under)
          | 7 => z = .pointer (some ⟨sb, 2, none⟩)
          | 8 => z = .int .i64 s.til
          | 9 => z = .pointer (some ⟨sb, 3, none⟩)
          | 10 => z = .int .i64 s.nonce
          | 11 => z = .int .i64 key
          | 12 => ∃ g, z = .slice (some ⟨g, 0, none⟩) 5 5 ∧ wr.heap.size ≤ g ∧ w7.heap[g]? = some (.cells #[.int .i64 (s.path.size : Int), .int .i64 (numS s.under), .int .i64 s.til, .int .i64 s.nonce, .int .i64 key] 3 (0, 0))
          | 13 => z = .int .i64 5
          | 14 => z = .int .i64 0
          | _ => True)
        (fun w7 w8 => Below w7.heap.size w7 w8) (fun _ => undef) (Below.refl _ _).drew ?_ ?_ ?_
      · intro i z w7 w8 hi hR hle
        match i, hi with
        | 0, _ => exact hR
        | 1, _ => exact hR
        | 2, _ => exact hR
        | 3, _ => exact hR
        | 4, _ => exact hR
        | 5, _ => exact hR
        | 6, _ => exact hR
        | 7, _ => exact hR
        | 8, _ => exact hR
        | 9, _ => exact hR
        | 10, _ => exact hR
        | 11, _ => exact hR
        | 12, _ => 
          obtain ⟨g, h1, h2, h3⟩ := hR
          exact ⟨g, h1, h2, (hle.block g (Array.getElem?_eq_some_iff.1 h3).1).trans h3⟩
        | 13, _ => exact hR
        | 14, _ => exact hR
        | n + 15, hn => exact absurd hn (by omega)
      · intro i hi z w7 kk hkk hC hdp
        match i, hi with
        | 0, _ =>
          refine wpOpIn_step rfl (fun K hK => ?_)
          clear hdp
          go_simp
          exact hK _ _ ⟨.pointer (some ⟨sb, 0, none⟩), rfl, rfl, Below.refl _ _, hC⟩
        | 1, _ =>
          obtain ⟨p0, p1, p2, p3, p4⟩ := sl_facts (HS.out w7 hC)
          have e0 : z 0 = .pointer (some ⟨sb, 0, none⟩) := hdp 0 (dep_of (by kernel_rfl))
          refine wpOpIn_step rfl (fun K hK => ?_)
          clear hdp
          go_simp
          exact hK _ _ ⟨.string s.path, by simp [upd, e0], rfl, Below.refl _ _, hC⟩
        | 2, _ =>
          have e1 : z 1 = .string s.path := hdp 1 (dep_of (by kernel_rfl))
          refine wpOpIn_step rfl (fun K hK => ?_)
          clear hdp
          go_simp
          exact hK _ _ ⟨.int .i64 (s.path.size : Int), by simp [upd, e1], rfl, Below.refl _ _, hC⟩
        | 3, _ =>
          refine wpOpIn_step rfl (fun K hK => ?_)
          clear hdp
          go_simp
          exact hK _ _ ⟨.pointer (some ⟨sb, 1, none⟩), rfl, rfl, Below.refl _ _, hC⟩
        | 4, _ =>
          obtain ⟨p0, p1, p2, p3, p4⟩ := sl_facts (HS.out w7 hC)
          have e3 : z 3 = .pointer (some ⟨sb, 1, none⟩) := hdp 3 (dep_of (by kernel_rfl))
          refine wpOpIn_step rfl (fun K hK => ?_)
          clear hdp
          go_simp
          exact hK _ _ ⟨.bool s.under, by simp [upd, e3], rfl, Below.refl _ _, hC⟩
        | 5, _ =>
          have e4 : z 4 = .bool s.under := hdp 4 (dep_of (by kernel_rfl))
          refine wpOpIn_step rfl (fun K hK => ?_)
          clear hdp
          go_simp
          refine ⟨trivial, ?_⟩
          gi_at_call 29
          refine (callsIn_wide.2 (scope_of s.under w7)).mono ?_
          rintro e w8 ⟨rfl, hb8⟩
          exact hK _ _ ⟨.agg #[.string (txS s.under), .int .i64 (numS s.under)], by simp [upd, e4], rfl, hb8, hC.trans (hb8.mono hC.size)⟩
        | 6, _ =>
          have e5 : z 5 = .agg #[.string (txS s.under), .int .i64 (numS s.under)] := hdp 5 (dep_of (by kernel_rfl))
          refine wpOpIn_step rfl (fun K hK => ?_)
          clear hdp
          go_simp
          exact hK _ _ ⟨.int .i64 (numS s.under), by simp [upd, e5, Act.put], rfl, Below.refl _ _, hC⟩
        | 7, _ =>
          refine wpOpIn_step rfl (fun K hK => ?_)
          clear hdp
          go_simp
          exact hK _ _ ⟨.pointer (some ⟨sb, 2, none⟩), rfl, rfl, Below.refl _ _, hC⟩
        | 8, _ =>
          obtain ⟨p0, p1, p2, p3, p4⟩ := sl_facts (HS.out w7 hC)
          have e7 : z 7 = .pointer (some ⟨sb, 2, none⟩) := hdp 7 (dep_of (by kernel_rfl))
          refine wpOpIn_step rfl (fun K hK => ?_)
          clear hdp
          go_simp
          exact hK _ _ ⟨.int .i64 s.til, by simp [upd, e7], rfl, Below.refl _ _, hC⟩
        | 9, _ =>
          refine wpOpIn_step rfl (fun K hK => ?_)
          clear hdp
          go_simp
          exact hK _ _ ⟨.pointer (some ⟨sb, 3, none⟩), rfl, rfl, Below.refl _ _, hC⟩
        | 10, _ =>
          obtain ⟨p0, p1, p2, p3, p4⟩ := sl_facts (HS.out w7 hC)
          have e9 : z 9 = .pointer (some ⟨sb, 3, none⟩) := hdp 9 (dep_of (by kernel_rfl))
          refine wpOpIn_step rfl (fun K hK => ?_)
          clear hdp
          go_simp
          exact hK _ _ ⟨.int .i64 s.nonce, by simp [upd, e9], rfl, Below.refl _ _, hC⟩
        | 11, _ =>
          have c7 := HKc.out w7 hC
          refine wpOpIn_step rfl (fun K hK => ?_)
          clear hdp
          go_simp
          exact hK _ _ ⟨.int .i64 key, rfl, rfl, Below.refl _ _, hC⟩
        | 12, _ =>
          have e2 : z 2 = .int .i64 (s.path.size : Int) := hdp 2 (dep_of (by kernel_rfl))
          have e6 : z 6 = .int .i64 (numS s.under) := hdp 6 (dep_of (by kernel_rfl))
          have e8 : z 8 = .int .i64 s.til := hdp 8 (dep_of (by kernel_rfl))
          have e10 : z 10 = .int .i64 s.nonce := hdp 10 (dep_of (by kernel_rfl))
          have e11 : z 11 = .int .i64 key := hdp 11 (dep_of (by kernel_rfl))
          refine wpOpIn_step rfl (fun K hK => ?_)
          clear hdp
          go_simp
          exact hK _ _ ⟨_, by simp [upd, e2, e6, e8, e10, e11], ⟨_, rfl, hC.size, heap_alloc_new w7 _⟩, (Below.refl _ _).alloc (Nat.le_refl _) _, hC.alloc hC.size _⟩
        | 13, _ =>
          obtain ⟨g, e12, -, -⟩ : ∃ g, z 12 = .slice (some ⟨g, 0, none⟩) 5 5 ∧ wr.heap.size ≤ g ∧ w7.heap[g]? = some (.cells #[.int .i64 (s.path.size : Int), .int .i64 (numS s.under), .int .i64 s.til, .int .i64 s.nonce, .int .i64 key] 3 (0, 0)) := hdp 12 (dep_of (by kernel_rfl))
          refine wpOpIn_step rfl (fun K hK => ?_)
          clear hdp
          go_simp
          exact hK _ _ ⟨.int .i64 5, by simp [upd, e12], rfl, Below.refl _ _, hC⟩
        | 14, _ =>
          refine wpOpIn_step rfl (fun K hK => ?_)
          clear hdp
          go_simp
          exact hK _ _ ⟨.int .i64 0, rfl, rfl, Below.refl _ _, hC⟩
        | n + 15, hn => exact absurd hn (by omega)
      · intro z w7 kk hkk hC hdp
        have e0 : z 0 = .pointer (some ⟨sb, 0, none⟩) := hdp 0 (by decide)
        have e1 : z 1 = .string s.path := hdp 1 (by decide)
        have e2 : z 2 = .int .i64 (s.path.size : Int) := hdp 2 (by decide)
        have e3 : z 3 = .pointer (some ⟨sb, 1, none⟩) := hdp 3 (by decide)
        have e4 : z 4 = .bool s.under := hdp 4 (by decide)
        have e5 : z 5 = .agg #[.string (txS s.under), .int .i64 (numS s.under)] := hdp 5 (by decide)
        have e6 : z 6 = .int .i64 (numS s.under) := hdp 6 (by decide)
        have e7 : z 7 = .pointer (some ⟨sb, 2, none⟩) := hdp 7 (by decide)
        have e8 : z 8 = .int .i64 s.til := hdp 8 (by decide)
        have e9 : z 9 = .pointer (some ⟨sb, 3, none⟩) := hdp 9 (by decide)
        have e10 : z 10 = .int .i64 s.nonce := hdp 10 (by decide)
        have e11 : z 11 = .int .i64 key := hdp 11 (by decide)
        obtain ⟨g, e12, hgw, hg⟩ : ∃ g, z 12 = .slice (some ⟨g, 0, none⟩) 5 5 ∧ wr.heap.size ≤ g ∧ w7.heap[g]? = some (.cells #[.int .i64 (s.path.size : Int), .int .i64 (numS s.under), .int .i64 s.til, .int .i64 s.nonce, .int .i64 key] 3 (0, 0)) := hdp 12 (by decide)
        have e13 : z 13 = .int .i64 5 := hdp 13 (by decide)
        have e14 : z 14 = .int .i64 0 := hdp 14 (by decide)
        have hJ7 := HA.out w7 hC
        have hz7 : W.heap.size ≤ w7.heap.size := Nat.le_trans hzr hC.size
        have hG0 : Hid (w7.heap[g]? = some (.cells #[.int .i64 (s.path.size : Int), .int .i64 (numS s.under), .int .i64 s.til, .int .i64 s.nonce, .int .i64 key] 3 (0, 0))) := Lib.hid hg
        have hgm : g ≠ mb := by omega
        simp only [e0, e1, e2, e3, e4, e5, e6, e7, e8, e9, e10, e11, e12, e13, e14]
        have HJ7 := Lib.hid hJ7
        clear hdp hC HA hg hJ7 e0 e1 e2 e3 e4 e5 e6 e7 e8 e9 e10 e11 e12 e13 e14
        have HL := Lib.hid (size_len s.path)
        gi_wp2
        gi_loopw [6, 47] (fun _ i wr => ∃ k : Nat, k ≤ 5 ∧ i = .int .i64 k ∧ J (s.path.size + 2 + k) wr ∧ wr.heap[g]? = some (.cells #[.int .i64 (s.path.size : Int), .int .i64 (numS s.under), .int .i64 s.til, .int .i64 s.nonce, .int .i64 key] 3 (0, 0))) (fun _ i _ => 5 - (intOf i).toNat)
        case atStart => exact ⟨0, Nat.zero_le _, rfl, HJ7.out, hG0.out⟩
        case round =>
          obtain ⟨k, hkk, rfl, hJr, hgr⟩ := hrel
          by_cases hlt : k < 5
          · obtain ⟨fn4, tmps4, assign4, body4, hy4, hR4⟩ := HY.out _ wr (by omega) hJr
            have hent : (partS key s.path.data.toList s.under s.til s.nonce).getD (s.path.size + 2 + k) 0 = (tailS key s.path.data.toList s.under s.til s.nonce).getD k 0 := by
              have := parts_end key s.path.data.toList s.under s.til s.nonce k
              rw [← HL.out] at this; exact this
            rw [hent] at hy4
            have hcell : wr.cell? ⟨g, k, none⟩ = some (.int .i64 ((tailS key s.path.data.toList s.under s.til s.nonce).getD k 0)) := by
              have e : (tailS key s.path.data.toList s.under s.til s.nonce) = [(s.path.size : Int), numS s.under, s.til, s.nonce, key] := by unfold tailS; rw [HL.out]
              rw [e]
              match k, hlt with
              | 0, _ => simp [World.cell?, hgr]
              | 1, _ => simp [World.cell?, hgr]
              | 2, _ => simp [World.cell?, hgr]
              | 3, _ => simp [World.cell?, hgr]
              | 4, _ => simp [World.cell?, hgr]
            generalize (tailS key s.path.data.toList s.under s.til s.nonce).getD k 0 = x at hy4 hcell
            have HG := Lib.hid hgr
            clear hJr hgr hent
            gi_wp2
            refine hR4.mono ?_
            rintro e W5 (⟨rfl, hJ5, hK5⟩ | ⟨rfl, hJ5⟩)
            · have HJ5 := Lib.hid (And.intro hJ5 (hK5.2 g _ _ _ hgm HG.out))
              clear hJ5 hK5 hR4 hy4 hcell HG
              gi_wp2
              go_roundw
              case rel => exact ⟨k + 1, by omega, by go_num, HJ5.out.1, HJ5.out.2⟩
              case measure => simp [intOf]; omega
            · have HJx := Lib.hid hJ5
              clear hJ5 hR4 hy4 hcell HG
              gi_wp2
              refine bodyPost_ret (results_none rfl _ _ _) rfl ?_
              exact ⟨⟨_, rfl⟩, .inr ⟨s.path.size + 2 + k + 1, by omega, HJx.out⟩⟩
          · obtain rfl : k = 5 := by omega
            have HJ5 := Lib.hid hJr
            clear hJr hgr
            gi_wp2
            go_end0
            exact ⟨⟨_, rfl⟩, .inl HJ5.out⟩
end Go.Proofs.YtbhnjnoblkfckabDoor
