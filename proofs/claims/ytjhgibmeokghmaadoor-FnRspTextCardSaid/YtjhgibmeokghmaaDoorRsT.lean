/- Walks: the text of an answer, by the program. -/
import Derived.Test.YtjhgibmeokghmaaDoorRsI3
import Derived.Test.YtjhgibmeokghmaaDoorRsW
import Derived.Test.YtjhgibmeokghmaaDoorLaidC
import Derived.Test.YtjhgibmeokghmaaDoorRegU
import Derived.Test.YtjhgibmeokghmaaDoorOwn2
import Derived.Test.YtjhgibmeokghmaaDoorParts
namespace Go.Proofs.YtjhgibmeokghmaaDoor
open Go.RowKit

def RSl (w0 : World) (n : Nat) (zs : Array Value) (T : TypeId) : Value → World → Prop := fun v w => ∃ b, v = .slice (some ⟨b, 0, none⟩) n n ∧ w0.heap.size ≤ b ∧ w.heap[b]? = some (.cells zs T (0, 0))
theorem steadyr_sl {w0 : World} {n : Nat} {zs : Array Value} {T : TypeId} : SteadyR (RSl w0 n zs T) := fun _ _ _ ⟨b, h1, h2, h3⟩ hb => ⟨b, h1, h2, (hb.block b (Array.getElem?_eq_some_iff.1 h3).1).trans h3⟩
theorem steadyr_eq {x : Value} : SteadyR (REq x) := fun _ _ _ h _ => h
theorem steadyr_at {Rs : List (Value → World → Prop)} {i : Nat} (h : AllOf SteadyR Rs) : SteadyR (RAt Rs i) := allOf_at steadyr_t h
theorem own_one {w : World} {B b : Nat} {e : TypeId} {x : Value} (h : w.heap[b]? = some (.cells #[x] e (0, 0))) (hb : B ≤ b) : w.ownsRow B e 1 (.slice (some ⟨b, 0, none⟩) 1 1) 1 [x] :=
  ⟨rfl, .inr ⟨b, 1, #[x], rfl, hb, h, Nat.le_refl _, by decide, rfl, rfl⟩⟩
theorem own_zero {w : World} {B b : Nat} {e : TypeId} (h : w.heap[b]? = some (.cells #[] e (0, 0))) (hb : B ≤ b) : w.ownsRow B e 1 (.slice (some ⟨b, 0, none⟩) 0 0) 0 [] :=
  ⟨rfl, .inr ⟨b, 0, #[], rfl, hb, h, Nat.le_refl _, by decide, rfl, rfl⟩⟩
theorem own_base {w : World} {B B' n size : Nat} {e : TypeId} {v : Value} {xs : List Value} (h : w.ownsRow B' e size v n xs) (hb : B ≤ B') : w.ownsRow B e size v n xs := by
  obtain ⟨h1, h2⟩ := h
  refine ⟨h1, ?_⟩
  rcases h2 with h | ⟨g, cap, cur, a, b, c⟩
  · exact .inl h
  · exact .inr ⟨g, cap, cur, a, Nat.le_trans hb b, c⟩
def bCode : ByteArray := ⟨#[99, 111, 100, 101, 32]⟩
def bCoding : ByteArray := ⟨#[32, 99, 111, 100, 105, 110, 103, 32]⟩
def bAge : ByteArray := ⟨#[32, 97, 103, 101, 32]⟩
def bTag : ByteArray := ⟨#[116, 97, 103, 32]⟩
def bBody : ByteArray := ⟨#[98, 111, 100, 121, 32]⟩
theorem cds_at {w : World} {k : Nat} (h : Cds w) (hk : k ≤ 2) : w.cell? ⟨0, k, none⟩ = some (strV (codNm (k : Int))) := by
  obtain ⟨_, a, b, c⟩ := h
  have : k = 0 ∨ k = 1 ∨ k = 2 := by omega
  rcases this with rfl | rfl | rfl
  · exact a
  · exact b
  · exact c
theorem line_c (r : Rp) (age : Int) : strV (lineC r age) = .string (bCode ++ ⟨(numT r.code).toArray⟩ ++ bCoding ++ ⟨(codNm r.cod).toArray⟩ ++ bAge ++ ⟨(numT age).toArray⟩) := by
  refine congrArg Value.string ?_
  apply ByteArray.ext
  simp [lineC, bCode, bCoding, bAge]
theorem line_t (r : Rp) : strV (lineT r) = .string (bTag ++ r.tag) := by
  refine congrArg Value.string ?_
  apply ByteArray.ext
  simp [lineT, bTag]
theorem line_b (r : Rp) : strV (lineB r) = .string (bBody ++ r.body) := by
  refine congrArg Value.string ?_
  apply ByteArray.ext
  simp [lineB, bBody]
theorem text_no {r : Rp} {age : Int} (h : ¬ (rspB r = true ∧ 0 ≤ age ∧ age ≤ 999999)) : rspT r age = [] := if_neg h
theorem numT_short (n : Int) : (ByteArray.mk (numT n).toArray).size ≤ 6 := by
  rw [size_len]
  show (numT n).length ≤ 6
  unfold numT
  split
  · exact dec_len_le 5 _ (by omega)
  · simp
theorem codNm_short (n : Int) : (ByteArray.mk (codNm n).toArray).size ≤ 5 := by
  rw [size_len]
  show (codNm n).length ≤ 5
  unfold codNm
  split
  · decide
  · split <;> decide


set_option maxRecDepth 100000 in
set_option maxHeartbeats 6400000 in
theorem impl_rsptext (r : Rp) (age : Int) (w : World) (ht : r.tag.size ≤ 1048576) (hb : r.body.size ≤ 1048576) (hcls : Cls w) (htab : Tab w) (hcds : Cds w) :
    Calls Tryd.prog 31 #[rspV r, .int .i64 age] w fun e w' => (∃ v, e = .returned v ∧ w'.ownsRow w.heap.size 9 1 v (rspT r age).length ((rspT r age).map strV)) ∧ Below w.heap.size w w' := by
  have hR := fun W (h : Cls W) => impl_rspok r W (by unfold maxLen; omega) (by unfold maxLen; omega) h
  have hN := fun W => num_ok age W
  have hno := @text_no r age
  have hyes := @rspB_iff r
  have hL := line_c r age
  have hLT := line_t r
  have hLB := line_b r
  have hT : rspB r = true → 0 ≤ age → age ≤ 999999 → rspT r age = lineC r age :: ((if r.tag.data.toList = [] then [] else [lineT r]) ++ (if r.body.data.toList = [] then [] else [lineB r])) := fun a b c => if_pos ⟨a, b, c⟩
  generalize lineC r age = LC at *
  generalize lineT r = LT at *
  generalize lineB r = LB at *
  generalize rspT r age = TX at *
  obtain ⟨c, m, hd, t, k, b⟩ := r
  unfold rspV at hR ⊢
  dsimp only at *
  generalize hB0 : rspB ⟨c, m, hd, t, k, b⟩ = B0 at *
  obtain ⟨wA, hwA⟩ : ∃ wA, wA = w.alloc (.cells #[.int .i64 c, .int .i64 m, .bool hd, .string t, .int .i64 k, .string b] 24) := ⟨_, rfl⟩
  have hsA : wA.heap.size = w.heap.size + 1 := by rw [hwA]; simp
  have hbA : Below w.heap.size w wA := by rw [hwA]; exact (Below.refl _ _).alloc (Nat.le_refl _) _
  have hH : wA.heap[w.heap.size]? = some (.cells #[.int .i64 c, .int .i64 m, .bool hd, .string t, .int .i64 k, .string b] 24 (0, 0)) := by rw [hwA]; exact heap_alloc_new w _
  have HX : Hid (∀ W, Below wA.heap.size wA W → (Cls W ∧ Tab W ∧ Cds W) ∧ Below w.heap.size w W ∧ W.heap[w.heap.size]? = some (.cells #[.int .i64 c, .int .i64 m, .bool hd, .string t, .int .i64 k, .string b] 24 (0, 0))) := Lib.hid fun W hW => by
    have hb' := hbA.trans (hW.mono (by omega))
    exact ⟨⟨hcls.below hb' (Nat.le_refl _), htab.below hb' (Nat.le_refl _), hcds.below hb' (Nat.le_refl _)⟩, hb', (hW.block _ (by omega)).trans hH⟩
  have HW := Lib.hid hwA
  have hbb : Below wA.heap.size wA wA := Below.refl _ _
  obtain ⟨q0, q1, q2, q3, q4, q5⟩ := six_facts hH
  rw [hwA] at q0 q1 q2 q3 q4 q5
  have HR := Lib.hid hR; have HN := Lib.hid hN; have HNO := Lib.hid hno; have HT := Lib.hid hT; have HYES := Lib.hid hyes; have HL := Lib.hid hL; have HLT := Lib.hid hLT; have HLB := Lib.hid hLB
  clear hR hN hno hT hyes hL hLT hLB hwA hbA hcls htab hcds hH
  go_enter Tryd.func31, Tryd.ntmps31
  go_wp2_with fail
  rw [← HW.out]
  refine (HR.out _ (HX.out _ hbb).1.1).mono ?_
  rintro e w1 ⟨rfl, hb1⟩
  replace hbb := hb1
  clear q0 q1 q2 q3 q4 q5 hb1
  cases B0
  · obtain rfl := HNO.out (fun h => by cases h.1)
    have HB := Lib.hid (HX.out _ hbb).2.1
    clear hbb
    go_wp2
    go_ret
    exact ⟨⟨_, rfl, World.ownsRow_nil _ _ _ _⟩, HB.out⟩
  have hrok := HYES.out.1 rfl
  by_cases ca : ¬ (0 ≤ age ∧ age ≤ 999999)
  · obtain rfl := HNO.out (fun h => ca h.2)
    have hN := HN.out w1
    rw [decide_eq_false ca] at hN
    have HB := Lib.hid (HX.out _ hbb).2.1
    clear hbb ca
    go_wp2_with fail
    refine hN.mono ?_
    rintro e w2 ⟨rfl, rfl⟩
    clear hN
    go_wp2
    go_ret
    exact ⟨⟨_, rfl, World.ownsRow_nil _ _ _ _⟩, HB.out⟩
  have ca : 0 ≤ age ∧ age ≤ 999999 := Classical.not_not.1 ca
  have hN := HN.out w1
  rw [decide_eq_true ca] at hN
  obtain ⟨ca0, ca1⟩ := ca
  have hTX := HT.out rfl ca0 ca1
  obtain ⟨⟨cc0, cc1⟩, _, _, ⟨ck0, ck1⟩, _⟩ := hrok
  dsimp only at cc0 cc1 ck0 ck1
  obtain ⟨k, rfl⟩ := Int.eq_ofNat_of_zero_le ck0
  have hk2 : k ≤ 2 := by omega
  have hk3 : (k : Int) < 3 := by omega
  have hC1 : Hid (∀ W, Tab W → Calls Tryd.prog 60 #[.int .i64 c] W fun e w' => e = .returned (strV (numT c)) ∧ Below W.heap.size W w') := Lib.hid fun W h => impl_numtext c W (by omega) (by omega) h
  have hC2 : Hid (∀ W, Tab W → Calls Tryd.prog 60 #[.int .i64 age] W fun e w' => e = .returned (strV (numT age)) ∧ Below W.heap.size W w') := Lib.hid fun W h => impl_numtext age W (by omega) (by omega) h
  have hN1 := numT_short c; have hN2 := numT_short age; have hNm := codNm_short (k : Int)
  have HCd : Hid (∀ W, Cds W → W.cell? ⟨0, k, none⟩ = some (strV (codNm (k : Int)))) := Lib.hid fun W h => cds_at h hk2
  unfold strV at hC1 hC2 HCd HL
  generalize (ByteArray.mk (numT c).toArray) = N1 at *
  generalize (ByteArray.mk (numT age).toArray) = N2 at *
  generalize (ByteArray.mk (codNm (k : Int)).toArray) = nm at *
  have z1 : (bCode ++ N1).size = 5 + N1.size := by rw [bytes_app]; rfl
  have z2 : (bCode ++ N1 ++ bCoding).size = 13 + N1.size := by rw [bytes_app, z1]; show _ + 8 = _; omega
  have z3 : (bCode ++ N1 ++ bCoding ++ nm).size = 13 + N1.size + nm.size := by rw [bytes_app, z2]
  have z4 : (bCode ++ N1 ++ bCoding ++ nm ++ bAge).size = 18 + N1.size + nm.size := by rw [bytes_app, z3]; show _ + 5 = _; omega
  generalize h1 : bCode ++ N1 = S1 at *
  generalize h2 : S1 ++ bCoding = S2 at *
  generalize h3 : S2 ++ nm = S3 at *
  generalize h4 : S3 ++ bAge = S4 at *
  generalize h5 : S4 ++ N2 = S5 at *
  unfold bCode at h1; unfold bCoding at h2; unfold bAge at h4
  have H1 := Lib.hid h1; have H2 := Lib.hid h2; have H3 := Lib.hid h3; have H4 := Lib.hid h4; have H5 := Lib.hid h5
  have HTX := Lib.hid hTX
  have HZ := Lib.hid (And.intro z1 (And.intro z2 (And.intro z3 z4)))
  clear z1 z2 z3 z4 h1 h2 h3 h4 h5 hTX HNO HT HYES HN HR
  go_wp2_with fail
  refine hN.mono ?_
  rintro e w2 ⟨rfl, rfl⟩
  clear hN
  go_wp2_with fail
  have HBB := Lib.hid hbb
  have HX1 : Hid (∀ W, Below w1.heap.size w1 W → (Cls W ∧ Tab W ∧ Cds W) ∧ Below w.heap.size w W ∧ W.heap[w.heap.size]? = some (.cells #[.int .i64 c, .int .i64 m, .bool hd, .string t, .int .i64 (k : Int), .string b] 24 (0, 0))) := Lib.hid fun W hW => HX.out _ (HBB.out.trans (hW.mono HBB.out.size))
  clear hbb
  refine wp_region_last (by kernel_rfl) 15 (by kernel_rfl) (by kernel_rfl) (by kernel_rfl)
    (fun z => { tmps := #[Value.agg #[Value.int IntKind.i64 c, Value.int IntKind.i64 m, Value.bool hd, Value.string t, Value.int IntKind.i64 (k : Int), Value.string b], Value.int IntKind.i64 age, Value.pointer (some { block := w.heap.size, off := 0 }), undef, Value.slice none 0 0, undef, Value.agg #[Value.int IntKind.i64 c, Value.int IntKind.i64 m, Value.bool hd, Value.string t, Value.int IntKind.i64 (k : Int), Value.string b], Value.bool true, Value.bool false, Value.bool false, Value.int IntKind.i64 age, Value.bool true, Value.bool false, Value.bool false, z 0, z 1, z 2, z 3, z 4, z 5, z 6, z 7, z 8, z 9, z 10, z 11, z 12, z 13, z 14, undef, undef, undef, undef, undef, undef, undef, undef, undef, undef, undef, undef, undef, undef, undef, undef, undef, undef, undef], defers := [] })
    (fun _ W => Below w1.heap.size w1 W)
    (RAt [REq (.pointer (some ⟨w.heap.size, 0, none⟩)), REq (.int .i64 c), REq (.string N1), REq (.string S1), REq (.string S2), REq (.pointer (some ⟨w.heap.size, 4, none⟩)), REq (.int .i64 (k : Int)), REq (.pointer (some ⟨0, k, none⟩)), REq (.string nm), REq (.string S3), REq (.string S4), REq (Value.int IntKind.i64 age), REq (.string N2), REq (.string S5), RSl w1 1 #[.string S5] 9])
    (fun w w' => Below w.heap.size w w') (fun _ => undef) (Below.refl _ _).drew
    (fun i v w w' _ hR hle => steadyr_at (by exact ⟨steadyr_eq, steadyr_eq, steadyr_eq, steadyr_eq, steadyr_eq, steadyr_eq, steadyr_eq, steadyr_eq, steadyr_eq, steadyr_eq, steadyr_eq, steadyr_eq, steadyr_eq, steadyr_eq, steadyr_sl, trivial⟩) v w w' hR hle) ?_ ?_
  · intro i hi z w7 kk hkk hC hdp
    match i, hi with
    | 0, _ =>
      refine wpOp_step rfl (fun K hK => ?_)
      clear hdp
      go_simp
      exact hK _ _ ⟨.pointer (some ⟨w.heap.size, 0, none⟩), rfl, rfl, Below.refl _ _, hC⟩
    | 1, _ =>
      obtain ⟨q0, q1, q2, q3, q4, q5⟩ := six_facts (HX1.out w7 hC).2.2
      have e0 : z 0 = .pointer (some ⟨w.heap.size, 0, none⟩) := hdp 0 (dep_of (by kernel_rfl))
      refine wpOp_step rfl (fun K hK => ?_)
      clear hdp
      go_simp
      exact hK _ _ ⟨.int .i64 c, by simp [upd, e0], rfl, Below.refl _ _, hC⟩
    | 2, _ =>
      have e1 : z 1 = .int .i64 c := hdp 1 (dep_of (by kernel_rfl))
      have hT := hC1.out w7 (HX1.out w7 hC).1.2.1
      refine wpOp_step rfl (fun K hK => ?_)
      clear hdp
      go_simp
      refine hT.mono ?_
      rintro e w8 ⟨rfl, hb8⟩
      exact hK _ _ ⟨.string N1, by simp [upd, e1], rfl, hb8, hC.trans (hb8.mono hC.size)⟩
    | 3, _ =>
      have hz : ¬ (9223372036854775807 < 5 + N1.size) := by obtain ⟨z1, z2, z3, z4⟩ := HZ.out; omega
      have e2 : z 2 = .string N1 := hdp 2 (dep_of (by kernel_rfl))
      refine wpOp_step rfl (fun K hK => ?_)
      clear hdp
      go_simp
      rw [H1.out]
      refine hK _ _ ?_
      exact ⟨.string S1, by simp [upd, e2], rfl, Below.refl _ _, hC⟩
    | 4, _ =>
      have hz : ¬ (9223372036854775807 < S1.size + 8) := by obtain ⟨z1, z2, z3, z4⟩ := HZ.out; omega
      have e3 : z 3 = .string S1 := hdp 3 (dep_of (by kernel_rfl))
      refine wpOp_step rfl (fun K hK => ?_)
      clear hdp
      go_simp
      rw [H2.out]
      refine hK _ _ ?_
      exact ⟨.string S2, by simp [upd, e3], rfl, Below.refl _ _, hC⟩
    | 5, _ =>
      refine wpOp_step rfl (fun K hK => ?_)
      clear hdp
      go_simp
      exact hK _ _ ⟨.pointer (some ⟨w.heap.size, 4, none⟩), rfl, rfl, Below.refl _ _, hC⟩
    | 6, _ =>
      obtain ⟨q0, q1, q2, q3, q4, q5⟩ := six_facts (HX1.out w7 hC).2.2
      have e5 : z 5 = .pointer (some ⟨w.heap.size, 4, none⟩) := hdp 5 (dep_of (by kernel_rfl))
      refine wpOp_step rfl (fun K hK => ?_)
      clear hdp
      go_simp
      exact hK _ _ ⟨.int .i64 (k : Int), by simp [upd, e5], rfl, Below.refl _ _, hC⟩
    | 7, _ =>
      have e6 : z 6 = .int .i64 (k : Int) := hdp 6 (dep_of (by kernel_rfl))
      refine wpOp_step rfl (fun K hK => ?_)
      clear hdp
      go_simp
      exact hK _ _ ⟨.pointer (some ⟨0, k, none⟩), by simp [upd, e6], rfl, Below.refl _ _, hC⟩
    | 8, _ =>
      have hcd := HCd.out w7 (HX1.out w7 hC).1.2.2
      have e7 : z 7 = .pointer (some ⟨0, k, none⟩) := hdp 7 (dep_of (by kernel_rfl))
      refine wpOp_step rfl (fun K hK => ?_)
      clear hdp
      go_simp
      exact hK _ _ ⟨.string nm, by simp [upd, e7], rfl, Below.refl _ _, hC⟩
    | 9, _ =>
      have hz : ¬ (9223372036854775807 < S2.size + nm.size) := by obtain ⟨z1, z2, z3, z4⟩ := HZ.out; omega
      have e4 : z 4 = .string S2 := hdp 4 (dep_of (by kernel_rfl))
      have e8 : z 8 = .string nm := hdp 8 (dep_of (by kernel_rfl))
      refine wpOp_step rfl (fun K hK => ?_)
      clear hdp
      go_simp
      rw [H3.out]
      refine hK _ _ ?_
      exact ⟨.string S3, by simp [upd, e4, e8], rfl, Below.refl _ _, hC⟩
    | 10, _ =>
      have hz : ¬ (9223372036854775807 < S3.size + 5) := by obtain ⟨z1, z2, z3, z4⟩ := HZ.out; omega
      have e9 : z 9 = .string S3 := hdp 9 (dep_of (by kernel_rfl))
      refine wpOp_step rfl (fun K hK => ?_)
      clear hdp
      go_simp
      rw [H4.out]
      refine hK _ _ ?_
      exact ⟨.string S4, by simp [upd, e9], rfl, Below.refl _ _, hC⟩
    | 11, _ =>
      refine wpOp_step rfl (fun K hK => ?_)
      clear hdp
      go_simp
      exact hK _ _ ⟨Value.int IntKind.i64 age, rfl, rfl, Below.refl _ _, hC⟩
    | 12, _ =>
      have e11 : z 11 = Value.int IntKind.i64 age := hdp 11 (dep_of (by kernel_rfl))
      have hT := hC2.out w7 (HX1.out w7 hC).1.2.1
      refine wpOp_step rfl (fun K hK => ?_)
      clear hdp
      go_simp
      refine hT.mono ?_
      rintro e w8 ⟨rfl, hb8⟩
      exact hK _ _ ⟨.string N2, by simp [upd, e11], rfl, hb8, hC.trans (hb8.mono hC.size)⟩
    | 13, _ =>
      have hz : ¬ (9223372036854775807 < S4.size + N2.size) := by obtain ⟨z1, z2, z3, z4⟩ := HZ.out; omega
      have e10 : z 10 = .string S4 := hdp 10 (dep_of (by kernel_rfl))
      have e12 : z 12 = .string N2 := hdp 12 (dep_of (by kernel_rfl))
      refine wpOp_step rfl (fun K hK => ?_)
      clear hdp
      go_simp
      rw [H5.out]
      refine hK _ _ ?_
      exact ⟨.string S5, by simp [upd, e10, e12], rfl, Below.refl _ _, hC⟩
    | 14, _ =>
      have e13 : z 13 = .string S5 := hdp 13 (dep_of (by kernel_rfl))
      refine wpOp_step rfl (fun K hK => ?_)
      clear hdp
      go_simp
      exact hK _ _ ⟨_, by simp [upd, e13], ⟨_, rfl, hC.size, heap_alloc_new w7 _⟩, (Below.refl _ _).alloc (Nat.le_refl _) _, hC.alloc hC.size _⟩
    | n + 15, hn => exact absurd hn (by omega)
  · intro z w7 kk hkk hC hdp
    obtain ⟨b14, e14, hB14, hc14⟩ : RSl w1 1 #[.string S5] 9 (z 14) w7 := hdp 14 (by decide)
    refine wpOp_step rfl (fun K hK => ?_)
    clear hdp
    go_simp
    refine hK _ _ ?_
    clear hK K e14
    obtain ⟨w3, hw3⟩ : ∃ x, x = w7 := ⟨_, rfl⟩
    rw [← hw3] at hC hc14 ⊢
    have hx3 := HX1.out _ hC
    have ho3 : w3.ownsRow (w.heap.size + 1) 9 1 (.slice (some ⟨b14, 0, none⟩) 1 1) 1 [.string S5] := own_one hc14 (by have h1 := HBB.out.size; omega)
    obtain ⟨i0, hi, hz0, hz1, hz2⟩ := info_parts Tryd.info9
    obtain ⟨q0, q1, q2, q3, q4, q5⟩ := six_facts hx3.2.2
    have hb3 := hx3.2.1
    have hlt : w.heap.size < w3.heap.size := (Array.getElem?_eq_some_iff.1 hx3.2.2).1
    have hp3 := hx3.2.2
    clear hw3 hC hc14 hx3
    have b0 : t.data.toList ≠ [] → (t.toList == ([] : List UInt8)) = false := fun h => by rw [Lib.toList_data]; exact beq_eq_false_iff_ne.2 h
    have b1 : b.data.toList ≠ [] → (b.toList == ([] : List UInt8)) = false := fun h => by rw [Lib.toList_data]; exact beq_eq_false_iff_ne.2 h
    have HB0 := Lib.hid b0; have HB1 := Lib.hid b1
    clear b0 b1
    have hzt : ¬ (9223372036854775807 < 4 + t.size) := by omega
    have hzb : ¬ (9223372036854775807 < 5 + b.size) := by omega
    have HLo := Lib.hid hlt; have HP3 := Lib.hid hp3
    clear hlt hp3
    by_cases ct : t.data.toList = []
    · obtain rfl := str_nil ct
      have FX : (⟨#[]⟩ : ByteArray).data.toList = [] := rfl
      by_cases cb : b.data.toList = []
      · obtain rfl := str_nil cb
        have hF := HTX.out
        rw [if_pos ct, if_pos cb] at hF
        have HO := Lib.hid (own_base ho3 (Nat.le_succ _)); have HF := Lib.hid hF; have HBx := Lib.hid (hb3)
        clear hF ho3
        go_wp2
        go_ret
        refine ⟨⟨_, rfl, ?_⟩, HBx.out⟩
        rw [HF.out]
        have e1 := HL.out; have e2 := HLT.out; have e3 := HLB.out
        unfold bTag at e2
        unfold bBody at e3
        simp only [List.nil_append, List.map_cons, List.map_nil, List.length_cons, List.length_nil, strV, e1]
        exact HO.out
      · have hq := HB1.out cb
        go_wp2_with (at_builtin; go_must (refine wpList_append1 w3 rfl _ _ 42 rfl (w.heap.size + 1) 9 i0 _ 16 Tryd.underlying42 hi hz0 hz1 hz2 rfl _ _ _ (by rfl) ho3 _ rfl _ (by rfl) (by unfold maxLen; omega) (by omega) HLo.out ?_); intro v4 w4 ho4 hb4 lt4; clear q0 q1 q2 q3 q4 q5; obtain ⟨q0, q1, q2, q3, q4, q5⟩ := six_facts ((hb4.block _ (Nat.lt_succ_self _)).trans HP3.out))
        have hF := HTX.out
        rw [if_pos ct, if_neg cb] at hF
        have HO := Lib.hid (own_base ho4 (Nat.le_succ _)); have HF := Lib.hid hF; have HBx := Lib.hid (hb3.trans (hb4.mono (Nat.le_succ _)))
        clear hF ho4
        go_wp2
        go_ret
        refine ⟨⟨_, rfl, ?_⟩, HBx.out⟩
        rw [HF.out]
        have e1 := HL.out; have e2 := HLT.out; have e3 := HLB.out
        unfold bTag at e2
        unfold bBody at e3
        simp only [List.nil_append, List.map_cons, List.map_nil, List.length_cons, List.length_nil, e3, strV, e1]
        exact HO.out
    · have hqt := HB0.out ct
      by_cases cb : b.data.toList = []
      · obtain rfl := str_nil cb
        go_wp2_with (at_builtin; go_must (refine wpList_append1 w3 rfl _ _ 42 rfl (w.heap.size + 1) 9 i0 _ 16 Tryd.underlying42 hi hz0 hz1 hz2 rfl _ _ _ (by rfl) ho3 _ rfl _ (by rfl) (by unfold maxLen; omega) (by omega) HLo.out ?_); intro v4 w4 ho4 hb4 lt4; clear q0 q1 q2 q3 q4 q5; obtain ⟨q0, q1, q2, q3, q4, q5⟩ := six_facts ((hb4.block _ (Nat.lt_succ_self _)).trans HP3.out))
        have hF := HTX.out
        rw [if_neg ct, if_pos cb] at hF
        have HO := Lib.hid (own_base ho4 (Nat.le_succ _)); have HF := Lib.hid hF; have HBx := Lib.hid (hb3.trans (hb4.mono (Nat.le_succ _)))
        clear hF ho4
        go_wp2
        go_ret
        refine ⟨⟨_, rfl, ?_⟩, HBx.out⟩
        rw [HF.out]
        have e1 := HL.out; have e2 := HLT.out; have e3 := HLB.out
        unfold bTag at e2
        unfold bBody at e3
        simp only [List.cons_append, List.nil_append, List.map_cons, List.map_nil, List.length_cons, List.length_nil, e2, strV, e1]
        exact HO.out
      · have hq := HB1.out cb
        go_wp2_with (at_builtin; first | (refine wpList_append1 w3 rfl _ _ 42 rfl (w.heap.size + 1) 9 i0 _ 16 Tryd.underlying42 hi hz0 hz1 hz2 rfl _ _ _ (by rfl) ho3 _ rfl _ (by rfl) (by unfold maxLen; omega) (by omega) HLo.out ?_; intro v4 w4 ho4 hb4 lt4; clear q0 q1 q2 q3 q4 q5; obtain ⟨q0, q1, q2, q3, q4, q5⟩ := six_facts ((hb4.block _ (Nat.lt_succ_self _)).trans HP3.out)) | (refine wpList_append1 w4 rfl _ _ 42 rfl (w.heap.size + 1) 9 i0 _ 16 Tryd.underlying42 hi hz0 hz1 hz2 rfl _ _ _ (by rfl) ho4 _ rfl _ (by rfl) (by unfold maxLen; omega) (by omega) (Nat.le_trans HLo.out hb4.size) ?_; intro v5 w5 ho5 hb5 lt5; clear q0 q1 q2 q3 q4 q5; obtain ⟨q0, q1, q2, q3, q4, q5⟩ := six_facts (((hb4.trans hb5).block _ (Nat.lt_succ_self _)).trans HP3.out)))
        have hF := HTX.out
        rw [if_neg ct, if_neg cb] at hF
        have HO := Lib.hid (own_base ho5 (Nat.le_succ _)); have HF := Lib.hid hF; have HBx := Lib.hid (hb3.trans ((hb4.trans hb5).mono (Nat.le_succ _)))
        clear hF ho5
        go_wp2
        go_ret
        refine ⟨⟨_, rfl, ?_⟩, HBx.out⟩
        rw [HF.out]
        have e1 := HL.out; have e2 := HLT.out; have e3 := HLB.out
        unfold bTag at e2
        unfold bBody at e3
        simp only [List.cons_append, List.nil_append, List.map_cons, List.map_nil, List.length_cons, List.length_nil, e2, e3, strV, e1]
        exact HO.out

end Go.Proofs.YtjhgibmeokghmaaDoor
