/- Walks: the text of an answer, by the specification. -/
import Derived.Test.YtjhgibmeokghmaaDoorRsT
import Derived.Test.YtjhgibmeokghmaaDoorRsS2
import Derived.Test.YtjhgibmeokghmaaDoorL6n
import Derived.Deep.RegionLawGrows
namespace Go.Proofs.YtjhgibmeokghmaaDoor
open Go.RowKit

theorem l1_plain (n : Int) (w : World) (h0 : 0 ≤ n) (h1 : n ≤ 999999) :
    Calls Tryd.prog 61 #[.int .i64 n] w fun e w' => e = .returned (strV (numT n)) ∧ Below w.heap.size w w' := by
  obtain ⟨k, rfl⟩ := Int.eq_ofNat_of_zero_le h0
  have := plain_any k w (by omega)
  rw [show numT (k : Int) = Lib.decDigits k from by unfold numT; rw [if_pos ⟨h0, h1⟩]; rfl]
  exact this
def nm3 : Array Value := #[.string ⟨#[112, 108, 97, 105, 110]⟩, .string ⟨#[103, 122]⟩, .string ⟨#[98, 114]⟩]
def RCl (x : Value) : Value → World → Prop := fun v w => ∃ b i zs T, v = .pointer (some ⟨b, i, none⟩) ∧ w.heap[b]? = some (.cells zs T (0, 0)) ∧ zs[i]? = some x
theorem steadyr_cl {x : Value} : SteadyR (RCl x) := fun _ _ _ ⟨b, i, zs, T, h1, h2, h3⟩ hb => ⟨b, i, zs, T, h1, (hb.block b (Array.getElem?_eq_some_iff.1 h2).1).trans h2, h3⟩
def ROw (B : Nat) (n : Nat) (xs : List Value) : Value → World → Prop := fun v w => w.ownsRow B 9 1 v n xs
theorem steadyr_ow {B n : Nat} {xs : List Value} : SteadyR (ROw B n xs) := fun _ _ _ h hb => own_below h hb
theorem nm_at {k : Nat} (hk : k ≤ 2) : nm3[k]? = some (strV (codNm (k : Int))) := by
  have : k = 0 ∨ k = 1 ∨ k = 2 := by omega
  rcases this with rfl | rfl | rfl <;> rfl

set_option maxRecDepth 100000 in
set_option maxHeartbeats 6400000 in
theorem spec_rsptext (r : Rp) (age : Int) (w : World) (ht : r.tag.size ≤ 1048576) (hb : r.body.size ≤ 1048576) :
    Calls Tryd.prog 33 #[rspV r, .int .i64 age] w fun e w' => (∃ v, e = .returned v ∧ w'.ownsRow w.heap.size 9 1 v (rspT r age).length ((rspT r age).map strV)) ∧ Below w.heap.size w w' := by
  have hR := fun W => spec_rspok r W (by unfold maxLen; omega) (by unfold maxLen; omega)
  have hN := fun W => cod_in1 age 0 999999 W
  have hno := @text_no r age
  have hyes := @rspB_iff r
  have hL := line_c r age
  have hLT := line_t r
  have hLB := line_b r
  have hT : rspB r = true → 0 ≤ age → age ≤ 999999 → rspT r age = lineC r age :: ((if r.tag.data.toList = [] then [] else [lineT r]) ++ (if r.body.data.toList = [] then [] else [lineB r])) := fun a b c => if_pos ⟨a, b, c⟩
  generalize lineC r age = LC at *
  generalize lineT r = LT at *
  generalize lineB r = LB at *
  generalize rspT r age = TX at *
  obtain ⟨c, m, hd, t, k, b⟩ := r
  unfold rspV at hR ⊢
  dsimp only at *
  generalize hB0 : rspB ⟨c, m, hd, t, k, b⟩ = B0 at *
  obtain ⟨hzA, hbA, g0, g1⟩ := rbox2 w (.cells #[.int .i64 c, .int .i64 m, .bool hd, .string t, .int .i64 k, .string b] 24) (.cells #[] 9)
  obtain ⟨wA, hwA⟩ : ∃ wA, wA = (w.alloc (.cells #[.int .i64 c, .int .i64 m, .bool hd, .string t, .int .i64 k, .string b] 24)).alloc (.cells #[] 9) := ⟨_, rfl⟩
  rw [← hwA] at hzA hbA g0 g1
  have HX : Hid (∀ W, Below wA.heap.size wA W → Below w.heap.size w W ∧ W.heap[w.heap.size]? = some (.cells #[.int .i64 c, .int .i64 m, .bool hd, .string t, .int .i64 k, .string b] 24 (0, 0)) ∧ W.heap[w.heap.size + 1]? = some (.cells #[] 9 (0, 0))) := Lib.hid fun W hW => by
    have hb' := hbA.trans (hW.mono (by omega))
    exact ⟨hb', (hW.block _ (by omega)).trans g0, (hW.block _ (by omega)).trans g1⟩
  have HW := Lib.hid hwA
  have hbb : Below wA.heap.size wA wA := Below.refl _ _
  obtain ⟨q0, q1, q2, q3, q4, q5⟩ := six_facts g0
  rw [hwA] at q0 q1 q2 q3 q4 q5
  have HR := Lib.hid hR; have HN := Lib.hid hN; have HNO := Lib.hid hno; have HT := Lib.hid hT; have HYES := Lib.hid hyes; have HL := Lib.hid hL; have HLT := Lib.hid hLT; have HLB := Lib.hid hLB
  clear hR hN hno hT hyes hL hLT hLB hwA hbA g0 g1
  go_enter Tryd.func33, Tryd.ntmps33
  go_wp2_with fail
  rw [← HW.out]
  refine (HR.out _).mono ?_
  rintro e w1 ⟨rfl, hb1⟩
  replace hbb := hb1
  clear q0 q1 q2 q3 q4 q5 hb1
  cases B0
  · obtain rfl := HNO.out (fun h => by cases h.1)
    have HB := Lib.hid (HX.out _ hbb)
    clear hbb
    go_wp2
    go_ret
    exact ⟨⟨_, rfl, own_zero HB.out.2.2 (Nat.le_succ _)⟩, HB.out.1⟩
  have hrok := HYES.out.1 rfl
  by_cases ca : ¬ (0 ≤ age ∧ age ≤ 999999)
  · obtain rfl := HNO.out (fun h => ca h.2)
    have hN := HN.out w1
    rw [decide_eq_false ca] at hN
    have HB := Lib.hid (HX.out _ hbb)
    clear hbb ca
    go_wp2_with fail
    refine hN.mono ?_
    rintro e w2 ⟨rfl, rfl⟩
    clear hN
    go_wp2
    go_ret
    exact ⟨⟨_, rfl, own_zero HB.out.2.2 (Nat.le_succ _)⟩, HB.out.1⟩
  have ca : 0 ≤ age ∧ age ≤ 999999 := Classical.not_not.1 ca
  have hN := HN.out w1
  rw [decide_eq_true ca] at hN
  obtain ⟨ca0, ca1⟩ := ca
  have hTX := HT.out rfl ca0 ca1
  obtain ⟨⟨cc0, cc1⟩, _, _, ⟨ck0, ck1⟩, _⟩ := hrok
  dsimp only at cc0 cc1 ck0 ck1
  obtain ⟨k, rfl⟩ := Int.eq_ofNat_of_zero_le ck0
  have hk2 : k ≤ 2 := by omega
  have hk3 : (k : Int) < 3 := by omega
  have hC1 : Hid (∀ W, Calls Tryd.prog 61 #[.int .i64 c] W fun e w' => e = .returned (strV (numT c)) ∧ Below W.heap.size W w') := Lib.hid fun W => l1_plain c W (by omega) (by omega)
  have hC2 : Hid (∀ W, Calls Tryd.prog 61 #[.int .i64 age] W fun e w' => e = .returned (strV (numT age)) ∧ Below W.heap.size W w') := Lib.hid fun W => l1_plain age W (by omega) (by omega)
  have hN1 := numT_short c; have hN2 := numT_short age; have hNm := codNm_short (k : Int)
  have HCd : Hid (nm3[k]? = some (strV (codNm (k : Int)))) := Lib.hid (nm_at hk2)
  unfold strV at hC1 hC2 HCd HL
  generalize (ByteArray.mk (numT c).toArray) = N1 at *
  generalize (ByteArray.mk (numT age).toArray) = N2 at *
  generalize (ByteArray.mk (codNm (k : Int)).toArray) = nm at *
  have z1 : (bCode ++ N1).size = 5 + N1.size := by rw [bytes_app]; rfl
  have z2 : (bCode ++ N1 ++ bCoding).size = 13 + N1.size := by rw [bytes_app, z1]; show _ + 8 = _; omega
  have z3 : (bCode ++ N1 ++ bCoding ++ nm).size = 13 + N1.size + nm.size := by rw [bytes_app, z2]
  have z4 : (bCode ++ N1 ++ bCoding ++ nm ++ bAge).size = 18 + N1.size + nm.size := by rw [bytes_app, z3]; show _ + 5 = _; omega
  generalize h1 : bCode ++ N1 = S1 at *
  generalize h2 : S1 ++ bCoding = S2 at *
  generalize h3 : S2 ++ nm = S3 at *
  generalize h4 : S3 ++ bAge = S4 at *
  generalize h5 : S4 ++ N2 = S5 at *
  unfold bCode at h1; unfold bCoding at h2; unfold bAge at h4
  have H1 := Lib.hid h1; have H2 := Lib.hid h2; have H3 := Lib.hid h3; have H4 := Lib.hid h4; have H5 := Lib.hid h5
  have HTX := Lib.hid hTX
  have HZ := Lib.hid (And.intro z1 (And.intro z2 (And.intro z3 z4)))
  clear z1 z2 z3 z4 h1 h2 h3 h4 h5 hTX HNO HT HYES HN HR
  obtain ⟨i0, hi, hz0, hz1, hz2⟩ := info_parts Tryd.info9
  have HI0 := Lib.hid (And.intro hi (And.intro hz0 (And.intro hz1 hz2)))
  clear hi hz0 hz1 hz2
  go_wp2_with fail
  refine hN.mono ?_
  rintro e w2 ⟨rfl, rfl⟩
  clear hN
  go_wp2_with fail
  have HBB := Lib.hid hbb
  have HX1 : Hid (∀ W, Below w1.heap.size w1 W → Below w.heap.size w W ∧ W.heap[w.heap.size]? = some (.cells #[.int .i64 c, .int .i64 m, .bool hd, .string t, .int .i64 (k : Int), .string b] 24 (0, 0)) ∧ W.heap[w.heap.size + 1]? = some (.cells #[] 9 (0, 0))) := Lib.hid fun W hW => HX.out _ (HBB.out.trans (hW.mono HBB.out.size))
  have HSZ : Hid (w.heap.size + 2 ≤ w1.heap.size) := Lib.hid (by have := hbb.size; omega)
  clear hbb
  refine wp_region_last (by kernel_rfl) 18 (by kernel_rfl) (by kernel_rfl) (by kernel_rfl)
    (fun z => { tmps := #[Value.agg #[Value.int IntKind.i64 c, Value.int IntKind.i64 m, Value.bool hd, Value.string t, Value.int IntKind.i64 (k : Int), Value.string b], Value.int IntKind.i64 age, Value.pointer (some { block := w.heap.size, off := 0 }), undef, Value.slice none 0 0, Value.slice (some { block := w.heap.size + 1, off := 0 }) 0 0, Value.slice (some { block := w.heap.size + 1, off := 0 }) 0 0, Value.agg #[Value.int IntKind.i64 c, Value.int IntKind.i64 m, Value.bool hd, Value.string t, Value.int IntKind.i64 (k : Int), Value.string b], Value.bool true, Value.bool false, Value.bool false, Value.int IntKind.i64 age, Value.bool true, Value.bool false, Value.bool false, undef, z 0, z 1, z 2, z 3, z 4, z 5, z 6, z 7, z 8, z 9, z 10, z 11, z 12, z 13, z 14, z 15, z 16, z 17, undef, undef, undef, undef, undef, undef, undef, undef, undef, undef, undef, undef, undef, undef, undef, undef, undef, undef, undef], defers := [] })
    (fun _ W => Below w1.heap.size w1 W)
    (RAt [REq (Value.slice (some { block := w.heap.size + 1, off := 0 }) 0 0), REq (.pointer (some ⟨w.heap.size, 0, none⟩)), REq (.int .i64 c), REq (.string N1), REq (.string S1), REq (.string S2), RSl w1 3 nm3 9, REq (.pointer (some ⟨w.heap.size, 4, none⟩)), REq (.int .i64 (k : Int)), RCl (.string nm), REq (.string nm), REq (.string S3), REq (.string S4), REq (Value.int IntKind.i64 age), REq (.string N2), REq (.string S5), RSl w1 1 #[.string S5] 9, ROw (w.heap.size + 1) 1 [.string S5]])
    (fun w w' => Below w.heap.size w w') (fun _ => undef) (Below.refl _ _).drew
    (fun i v w w' _ hR hle => steadyr_at (by exact ⟨steadyr_eq, steadyr_eq, steadyr_eq, steadyr_eq, steadyr_eq, steadyr_eq, steadyr_sl, steadyr_eq, steadyr_eq, steadyr_cl, steadyr_eq, steadyr_eq, steadyr_eq, steadyr_eq, steadyr_eq, steadyr_eq, steadyr_sl, steadyr_ow, trivial⟩) v w w' hR hle) ?_ ?_
  · intro i hi z w7 kk hkk hC hdp
    match i, hi with
    | 0, _ =>
      refine wpOp_step rfl (fun K hK => ?_)
      clear hdp
      go_simp
      exact hK _ _ ⟨Value.slice (some { block := w.heap.size + 1, off := 0 }) 0 0, rfl, rfl, Below.refl _ _, hC⟩
    | 1, _ =>
      refine wpOp_step rfl (fun K hK => ?_)
      clear hdp
      go_simp
      exact hK _ _ ⟨.pointer (some ⟨w.heap.size, 0, none⟩), rfl, rfl, Below.refl _ _, hC⟩
    | 2, _ =>
      obtain ⟨q0, q1, q2, q3, q4, q5⟩ := six_facts (HX1.out w7 hC).2.1
      have e1 : z 1 = .pointer (some ⟨w.heap.size, 0, none⟩) := hdp 1 (dep_of (by kernel_rfl))
      refine wpOp_step rfl (fun K hK => ?_)
      clear hdp
      go_simp
      exact hK _ _ ⟨.int .i64 c, by simp [upd, e1], rfl, Below.refl _ _, hC⟩
    | 3, _ =>
      have e2 : z 2 = .int .i64 c := hdp 2 (dep_of (by kernel_rfl))
      have hT := hC1.out w7
      refine wpOp_step rfl (fun K hK => ?_)
      clear hdp
      go_simp
      refine hT.mono ?_
      rintro e w8 ⟨rfl, hb8⟩
      exact hK _ _ ⟨.string N1, by simp [upd, e2], rfl, hb8, hC.trans (hb8.mono hC.size)⟩
    | 4, _ =>
      have hz : ¬ (9223372036854775807 < 5 + N1.size) := by obtain ⟨z1, z2, z3, z4⟩ := HZ.out; omega
      have e3 : z 3 = .string N1 := hdp 3 (dep_of (by kernel_rfl))
      refine wpOp_step rfl (fun K hK => ?_)
      clear hdp
      go_simp
      rw [H1.out]
      refine hK _ _ ?_
      exact ⟨.string S1, by simp [upd, e3], rfl, Below.refl _ _, hC⟩
    | 5, _ =>
      have hz : ¬ (9223372036854775807 < S1.size + 8) := by obtain ⟨z1, z2, z3, z4⟩ := HZ.out; omega
      have e4 : z 4 = .string S1 := hdp 4 (dep_of (by kernel_rfl))
      refine wpOp_step rfl (fun K hK => ?_)
      clear hdp
      go_simp
      rw [H2.out]
      refine hK _ _ ?_
      exact ⟨.string S2, by simp [upd, e4], rfl, Below.refl _ _, hC⟩
    | 6, _ =>
      have hT := l6_names w7
      refine wpOp_step rfl (fun K hK => ?_)
      clear hdp
      go_simp
      refine hT.mono ?_
      rintro e w8 ⟨rfl, rfl⟩
      exact hK _ _ ⟨_, rfl, ⟨_, rfl, hC.size, heap_alloc_new w7 _⟩, (Below.refl _ _).alloc (Nat.le_refl _) _, hC.alloc hC.size _⟩
    | 7, _ =>
      refine wpOp_step rfl (fun K hK => ?_)
      clear hdp
      go_simp
      exact hK _ _ ⟨.pointer (some ⟨w.heap.size, 4, none⟩), rfl, rfl, Below.refl _ _, hC⟩
    | 8, _ =>
      obtain ⟨q0, q1, q2, q3, q4, q5⟩ := six_facts (HX1.out w7 hC).2.1
      have e7 : z 7 = .pointer (some ⟨w.heap.size, 4, none⟩) := hdp 7 (dep_of (by kernel_rfl))
      refine wpOp_step rfl (fun K hK => ?_)
      clear hdp
      go_simp
      exact hK _ _ ⟨.int .i64 (k : Int), by simp [upd, e7], rfl, Below.refl _ _, hC⟩
    | 9, _ =>
      have r6 : RSl w1 3 nm3 9 (z 6) w7 := hdp 6 (dep_of (by kernel_rfl))
      have e8 : z 8 = .int .i64 (k : Int) := hdp 8 (dep_of (by kernel_rfl))
      obtain ⟨b6, e6, _, hc6⟩ := r6
      refine wpOp_step rfl (fun K hK => ?_)
      clear hdp
      go_simp
      exact hK _ _ ⟨_, by simp [upd, e6, e8], ⟨b6, k, nm3, _, rfl, hc6, HCd.out⟩, Below.refl _ _, hC⟩
    | 10, _ =>
      have r9 : RCl (.string nm) (z 9) w7 := hdp 9 (dep_of (by kernel_rfl))
      obtain ⟨b9, i9, zs9, T9, e9, hc9, hi9⟩ := r9
      have hcd := (cell_of_row w7 b9 i9 zs9 T9 (0, 0) hc9).trans hi9
      refine wpOp_step rfl (fun K hK => ?_)
      clear hdp
      go_simp
      exact hK _ _ ⟨.string nm, by simp [upd, e9], rfl, Below.refl _ _, hC⟩
    | 11, _ =>
      have hz : ¬ (9223372036854775807 < S2.size + nm.size) := by obtain ⟨z1, z2, z3, z4⟩ := HZ.out; omega
      have e5 : z 5 = .string S2 := hdp 5 (dep_of (by kernel_rfl))
      have e10 : z 10 = .string nm := hdp 10 (dep_of (by kernel_rfl))
      refine wpOp_step rfl (fun K hK => ?_)
      clear hdp
      go_simp
      rw [H3.out]
      refine hK _ _ ?_
      exact ⟨.string S3, by simp [upd, e5, e10], rfl, Below.refl _ _, hC⟩
    | 12, _ =>
      have hz : ¬ (9223372036854775807 < S3.size + 5) := by obtain ⟨z1, z2, z3, z4⟩ := HZ.out; omega
      have e11 : z 11 = .string S3 := hdp 11 (dep_of (by kernel_rfl))
      refine wpOp_step rfl (fun K hK => ?_)
      clear hdp
      go_simp
      rw [H4.out]
      refine hK _ _ ?_
      exact ⟨.string S4, by simp [upd, e11], rfl, Below.refl _ _, hC⟩
    | 13, _ =>
      refine wpOp_step rfl (fun K hK => ?_)
      clear hdp
      go_simp
      exact hK _ _ ⟨Value.int IntKind.i64 age, rfl, rfl, Below.refl _ _, hC⟩
    | 14, _ =>
      have e13 : z 13 = Value.int IntKind.i64 age := hdp 13 (dep_of (by kernel_rfl))
      have hT := hC2.out w7
      refine wpOp_step rfl (fun K hK => ?_)
      clear hdp
      go_simp
      refine hT.mono ?_
      rintro e w8 ⟨rfl, hb8⟩
      exact hK _ _ ⟨.string N2, by simp [upd, e13], rfl, hb8, hC.trans (hb8.mono hC.size)⟩
    | 15, _ =>
      have hz : ¬ (9223372036854775807 < S4.size + N2.size) := by obtain ⟨z1, z2, z3, z4⟩ := HZ.out; omega
      have e12 : z 12 = .string S4 := hdp 12 (dep_of (by kernel_rfl))
      have e14 : z 14 = .string N2 := hdp 14 (dep_of (by kernel_rfl))
      refine wpOp_step rfl (fun K hK => ?_)
      clear hdp
      go_simp
      rw [H5.out]
      refine hK _ _ ?_
      exact ⟨.string S5, by simp [upd, e12, e14], rfl, Below.refl _ _, hC⟩
    | 16, _ =>
      have e15 : z 15 = .string S5 := hdp 15 (dep_of (by kernel_rfl))
      refine wpOp_step rfl (fun K hK => ?_)
      clear hdp
      go_simp
      exact hK _ _ ⟨_, by simp [upd, e15], ⟨_, rfl, hC.size, heap_alloc_new w7 _⟩, (Below.refl _ _).alloc (Nat.le_refl _) _, hC.alloc hC.size _⟩
    | 17, _ =>
      have e0 : z 0 = Value.slice (some { block := w.heap.size + 1, off := 0 }) 0 0 := hdp 0 (dep_of (by kernel_rfl))
      obtain ⟨b16, e16, hB16, hc16⟩ : RSl w1 1 #[.string S5] 9 (z 16) w7 := hdp 16 (dep_of (by kernel_rfl))
      obtain ⟨hi, hz0, hz1, hz2⟩ := HI0.out
      have hsz1 := hC.size
      have hsz0 := HSZ.out
      have hcell : ∀ j u, ([.string S5] : List Value)[j]? = some u → World.cell? w7 (Addr.add ⟨b16, 0, none⟩ j) = some u := fun j u hu => by
        match j, hu with
        | 0, hu =>
          obtain rfl : Value.string S5 = u := by simpa using hu
          exact (cell_of_row w7 b16 0 _ _ (0, 0) hc16).trans rfl
        | j + 1, hu => simp at hu
      refine wpOp_step rfl (fun K hK => ?_)
      clear hdp
      refine step_append_grows rfl _ _ 42 rfl 9 i0 _ 1 16 Tryd.underlying42 hi hz0 hz1 hz2 rfl (by decide) (some ⟨w.heap.size + 1, 0, none⟩) 0 0 [] e0 (fun h => by cases h) rfl (fun b h j u hj => by simp at hj) ⟨b16, 0, none⟩ 1 1 [.string S5] e16 rfl hcell (fun u hu => by simp only [List.mem_singleton] at hu; subst hu; rfl) (by omega) (by unfold maxLen; omega) (by omega) ?_
      intro v8 w8 ho8 hg8
      have hb8 : Below (World.heap w7).size w7 w8 := ⟨hg8.os, hg8.tape, hg8.output, hg8.size, fun k hk => hg8.block k hk (by simp)⟩
      refine hK _ _ ?_
      exact ⟨v8, by simp [upd, Act.put, e0, e16], own_base ho8 (by omega), hb8, hC.trans (hb8.mono hC.size)⟩
    | n + 18, hn => exact absurd hn (by omega)
  · intro z w7 kk hkk hC hdp
    have r17 : ROw (w.heap.size + 1) 1 [.string S5] (z 17) w7 := hdp 17 (by decide)
    refine wpOp_step rfl (fun K hK => ?_)
    clear hdp
    go_simp
    refine hK _ _ ?_
    clear hK K
    obtain ⟨w3, hw3⟩ : ∃ x, x = w7 := ⟨_, rfl⟩
    obtain ⟨v3, hv3⟩ : ∃ x, x = z 17 := ⟨_, rfl⟩
    rw [← hw3] at hC r17 ⊢
    rw [← hv3] at r17 ⊢
    have ho3 : w3.ownsRow (w.heap.size + 1) 9 1 v3 1 [.string S5] := r17
    have hx3 := HX1.out _ hC
    obtain ⟨hi, hz0, hz1, hz2⟩ := HI0.out
    obtain ⟨q0, q1, q2, q3, q4, q5⟩ := six_facts hx3.2.1
    have hb3 := hx3.1
    have hlt : w.heap.size < w3.heap.size := (Array.getElem?_eq_some_iff.1 hx3.2.1).1
    have hp3 := hx3.2.1
    clear hw3 hv3 hC r17 hx3
    have b0 : t.data.toList ≠ [] → (t.toList == ([] : List UInt8)) = false := fun h => by rw [Lib.toList_data]; exact beq_eq_false_iff_ne.2 h
    have b1 : b.data.toList ≠ [] → (b.toList == ([] : List UInt8)) = false := fun h => by rw [Lib.toList_data]; exact beq_eq_false_iff_ne.2 h
    have HB0 := Lib.hid b0; have HB1 := Lib.hid b1
    clear b0 b1
    have hzt : ¬ (9223372036854775807 < 4 + t.size) := by omega
    have hzb : ¬ (9223372036854775807 < 5 + b.size) := by omega
    have HLo := Lib.hid hlt; have HP3 := Lib.hid hp3
    clear hlt hp3
    by_cases ct : t.data.toList = []
    · obtain rfl := str_nil ct
      have FX : (⟨#[]⟩ : ByteArray).data.toList = [] := rfl
      by_cases cb : b.data.toList = []
      · obtain rfl := str_nil cb
        have hF := HTX.out
        rw [if_pos ct, if_pos cb] at hF
        have HO := Lib.hid (own_base ho3 (Nat.le_succ _)); have HF := Lib.hid hF; have HBx := Lib.hid (hb3)
        clear hF ho3
        go_wp2
        go_ret
        refine ⟨⟨_, rfl, ?_⟩, HBx.out⟩
        rw [HF.out]
        have e1 := HL.out; have e2 := HLT.out; have e3 := HLB.out
        unfold bTag at e2
        unfold bBody at e3
        simp only [List.nil_append, List.map_cons, List.map_nil, List.length_cons, List.length_nil, strV, e1]
        exact HO.out
      · have hq := HB1.out cb
        go_wp2_with (at_builtin; go_must (refine wpList_append1 w3 rfl _ _ 42 rfl (w.heap.size + 1) 9 i0 _ 16 Tryd.underlying42 hi hz0 hz1 hz2 rfl _ _ _ (by rfl) ho3 _ rfl _ (by rfl) (by unfold maxLen; omega) (by omega) HLo.out ?_); intro v4 w4 ho4 hb4 lt4; clear q0 q1 q2 q3 q4 q5; obtain ⟨q0, q1, q2, q3, q4, q5⟩ := six_facts ((hb4.block _ (Nat.lt_succ_self _)).trans HP3.out))
        have hF := HTX.out
        rw [if_pos ct, if_neg cb] at hF
        have HO := Lib.hid (own_base ho4 (Nat.le_succ _)); have HF := Lib.hid hF; have HBx := Lib.hid (hb3.trans (hb4.mono (Nat.le_succ _)))
        clear hF ho4
        go_wp2
        go_ret
        refine ⟨⟨_, rfl, ?_⟩, HBx.out⟩
        rw [HF.out]
        have e1 := HL.out; have e2 := HLT.out; have e3 := HLB.out
        unfold bTag at e2
        unfold bBody at e3
        simp only [List.nil_append, List.map_cons, List.map_nil, List.length_cons, List.length_nil, e3, strV, e1]
        exact HO.out
    · have hqt := HB0.out ct
      by_cases cb : b.data.toList = []
      · obtain rfl := str_nil cb
        go_wp2_with (at_builtin; go_must (refine wpList_append1 w3 rfl _ _ 42 rfl (w.heap.size + 1) 9 i0 _ 16 Tryd.underlying42 hi hz0 hz1 hz2 rfl _ _ _ (by rfl) ho3 _ rfl _ (by rfl) (by unfold maxLen; omega) (by omega) HLo.out ?_); intro v4 w4 ho4 hb4 lt4; clear q0 q1 q2 q3 q4 q5; obtain ⟨q0, q1, q2, q3, q4, q5⟩ := six_facts ((hb4.block _ (Nat.lt_succ_self _)).trans HP3.out))
        have hF := HTX.out
        rw [if_neg ct, if_pos cb] at hF
        have HO := Lib.hid (own_base ho4 (Nat.le_succ _)); have HF := Lib.hid hF; have HBx := Lib.hid (hb3.trans (hb4.mono (Nat.le_succ _)))
        clear hF ho4
        go_wp2
        go_ret
        refine ⟨⟨_, rfl, ?_⟩, HBx.out⟩
        rw [HF.out]
        have e1 := HL.out; have e2 := HLT.out; have e3 := HLB.out
        unfold bTag at e2
        unfold bBody at e3
        simp only [List.cons_append, List.nil_append, List.map_cons, List.map_nil, List.length_cons, List.length_nil, e2, strV, e1]
        exact HO.out
      · have hq := HB1.out cb
        go_wp2_with (at_builtin; first | (refine wpList_append1 w3 rfl _ _ 42 rfl (w.heap.size + 1) 9 i0 _ 16 Tryd.underlying42 hi hz0 hz1 hz2 rfl _ _ _ (by rfl) ho3 _ rfl _ (by rfl) (by unfold maxLen; omega) (by omega) HLo.out ?_; intro v4 w4 ho4 hb4 lt4; clear q0 q1 q2 q3 q4 q5; obtain ⟨q0, q1, q2, q3, q4, q5⟩ := six_facts ((hb4.block _ (Nat.lt_succ_self _)).trans HP3.out)) | (refine wpList_append1 w4 rfl _ _ 42 rfl (w.heap.size + 1) 9 i0 _ 16 Tryd.underlying42 hi hz0 hz1 hz2 rfl _ _ _ (by rfl) ho4 _ rfl _ (by rfl) (by unfold maxLen; omega) (by omega) (Nat.le_trans HLo.out hb4.size) ?_; intro v5 w5 ho5 hb5 lt5; clear q0 q1 q2 q3 q4 q5; obtain ⟨q0, q1, q2, q3, q4, q5⟩ := six_facts (((hb4.trans hb5).block _ (Nat.lt_succ_self _)).trans HP3.out)))
        have hF := HTX.out
        rw [if_neg ct, if_neg cb] at hF
        have HO := Lib.hid (own_base ho5 (Nat.le_succ _)); have HF := Lib.hid hF; have HBx := Lib.hid (hb3.trans ((hb4.trans hb5).mono (Nat.le_succ _)))
        clear hF ho5
        go_wp2
        go_ret
        refine ⟨⟨_, rfl, ?_⟩, HBx.out⟩
        rw [HF.out]
        have e1 := HL.out; have e2 := HLT.out; have e3 := HLB.out
        unfold bTag at e2
        unfold bBody at e3
        simp only [List.cons_append, List.nil_append, List.map_cons, List.map_nil, List.length_cons, List.length_nil, e2, e3, strV, e1]
        exact HO.out

end Go.Proofs.YtjhgibmeokghmaaDoor
