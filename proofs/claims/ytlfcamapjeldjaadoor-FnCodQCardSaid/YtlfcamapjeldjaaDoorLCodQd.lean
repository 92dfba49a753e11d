/- The laws on qualities and on what is in a set, drawn. -/
import Derived.Test.YtlfcamapjeldjaaDoorCodQi
import Derived.Test.YtlfcamapjeldjaaDoorCodD
import Derived.Test.YtlfcamapjeldjaaDoorMaskB
import Derived.Test.YtlfcamapjeldjaaDoorGdOk
import Derived.Test.YtlfcamapjeldjaaDoorLaidN
namespace Go.Proofs.YtlfcamapjeldjaaDoor
open Go.RowKit

set_option maxRecDepth 100000 in
set_option maxHeartbeats 1600000 in
theorem law_codqd (a : Option Addr) (len cap : Nat) (zs : List Int) (w : World) (h : IsRow .u8 w a len cap zs) (hcls : Cls w) (he : Errs w) :
    Calls Tryd.prog 5 #[.slice a len cap] w fun e w' => e = .returned (.bool true) ∧ Below w.heap.size w w' := by
  have hlen := isrow_len h
  have HI := Lib.hid h
  have HX : Hid (∀ W, Below w.heap.size w W → Cls W ∧ Errs W) := Lib.hid fun W hW => ⟨hcls.below hW (Nat.le_refl _), he.below hW (Nat.le_refl _)⟩
  clear h hcls he
  by_cases hbig : 1048576 < len
  · go_enter Tryd.func5, Tryd.ntmps5
    go_wp2_with fail
    go_ret
    exact ⟨rfl, Below.refl _ _⟩
  go_enter Tryd.func5, Tryd.ntmps5
  go_wp2_with fail
  refine (draw_codq a len cap zs _ HI.out).mono ?_
  rintro e w1 ⟨⟨r, rfl⟩, hb1⟩
  have hl := qlit_len r
  generalize qLit r.val = l at *
  have hsz : (ByteArray.mk l.toArray).size ≤ 6 := by rw [size_len]; exact hl
  have hszl : (ByteArray.mk l.toArray).size = l.length := size_len _
  have hQ1 := fun W (h : Errs W) => impl_codq ⟨l.toArray⟩ W (by omega) h
  have hQ2 := fun W => spec_codq ⟨l.toArray⟩ W (by unfold maxLen; omega)
  have hsz2 : (ByteArray.mk (l ++ [48]).toArray).size ≤ 7 := by rw [size_len]; simp only [List.length_append, List.length_singleton]; omega
  have hQ3 := fun W (h : Errs W) => impl_codq ⟨(l ++ [48]).toArray⟩ W (by omega) h
  have hcat : (ByteArray.mk l.toArray) ++ ⟨#[48]⟩ = ⟨(l ++ [48]).toArray⟩ := cat_mk l [48]
  unfold QEnd at hQ1 hQ2 hQ3
  simp only at hQ1 hQ2 hQ3
  have hm := fun (q : Nat) (h : codQ l = (q, true)) => @q_more l q h
  have hle := fun (q : Nat) (h : codQ l = (q, true)) => q_le h
  generalize codQ l = Q at *
  generalize codQ (l ++ [48]) = Q2 at *
  obtain ⟨q, ok⟩ := Q
  simp only at hQ1 hQ2
  rw [← hcat] at hQ3
  have HQ1 := Lib.hid hQ1; have HQ2 := Lib.hid hQ2; have HQ3 := Lib.hid hQ3; have HM := Lib.hid hm
  clear hQ1 hQ2 hQ3 hm hsz2 hcat
  unfold strV
  go_wp2_with fail
  refine (HQ1.out _ (HX.out _ hb1).2).mono ?_
  rintro e w2 ⟨rfl, hb2⟩
  have hb02 := hb1.trans (hb2.mono hb1.size)
  go_wp2_with fail
  refine (HQ2.out _).mono ?_
  rintro e w3 ⟨rfl, n3, rfl⟩
  have hb03 : Below w.heap.size w (w2.drewN n3) := below_drewN hb02
  cases ok
  · go_wp2_with fail
    refine (gd_ok _ (HX.out _ hb03).1).mono ?_
    rintro e w4 ⟨rfl, rfl⟩
    go_wp2
    go_ret
    exact ⟨rfl, hb03⟩
  · have hq := hle q rfl
    by_cases h1 : 1 < l.length ∧ l.length < 5
    · have hmm := HM.out q rfl h1.1 h1.2
      subst hmm
      have HQ4 := Lib.hid (HQ3.out _ (HX.out _ hb03).2)
      obtain ⟨h1, h5⟩ := h1
      clear HQ3 HM
      go_wp2_with fail
      refine HQ4.out.mono ?_
      rintro e w4 ⟨rfl, hb4⟩
      have hb04 := hb03.trans (hb4.mono hb03.size)
      go_wp2
      go_ret
      exact ⟨rfl, hb04⟩
    · have hc : ((1 < (l.length : Int)) ∧ ¬ (l.length : Int) < 5) ∨ ¬ 1 < (l.length : Int) := by omega
      clear h1
      rcases hc with ⟨c1, c2⟩ | c1
      all_goals
        go_wp2_with fail
        refine (gd_ok _ (HX.out _ hb03).1).mono ?_
        rintro e w4 ⟨rfl, rfl⟩
        go_wp2
        go_ret
        exact ⟨rfl, hb03⟩

/-- The codings below k that are in a set. -/
def inTo (m : Int) (k : Nat) : Nat := (if 0 < k ∧ inB m 0 = true then 1 else 0) + (if 1 < k ∧ inB m 1 = true then 2 else 0) + (if 2 < k ∧ inB m 2 = true then 4 else 0)
theorem inTo_out {m : Int} (hm : ¬ (0 ≤ m ∧ m < 8)) (k : Nat) : inTo m k = 0 := by simp [inTo, inB_out hm]
theorem inTo_all : ∀ m : Fin 8, inTo (m.val : Int) 3 = m.val := by decide
theorem inTo_step (m : Int) (k : Nat) (hk : k < 3) : inTo m (k + 1) = inTo m k + if inB m (k : Int) = true then 2 ^ k else 0 := by
  have h : k = 0 ∨ k = 1 ∨ k = 2 := by omega
  rcases h with rfl | rfl | rfl <;> simp [inTo]
theorem inTo_le (m : Int) (k : Nat) : inTo m k ≤ 7 := by
  unfold inTo
  repeat' split
  all_goals omega

set_option maxRecDepth 100000 in
set_option maxHeartbeats 3200000 in
theorem law_codind (a : Option Addr) (len cap : Nat) (zs : List Int) (w : World) (h : IsRow .u8 w a len cap zs) (hcls : Cls w) :
    Calls Tryd.prog 4 #[.slice a len cap] w fun e w' => e = .returned (.bool true) ∧ Below w.heap.size w w' := by
  have hlen := isrow_len h
  have HI := Lib.hid h
  have HX : Hid (∀ W, Below w.heap.size w W → Cls W) := Lib.hid fun W hW => hcls.below hW (Nat.le_refl _)
  clear h hcls
  by_cases hbig : 1048576 < len
  · go_enter Tryd.func4, Tryd.ntmps4
    go_wp2_with fail
    go_ret
    exact ⟨rfl, Below.refl _ _⟩
  go_enter Tryd.func4, Tryd.ntmps4
  go_wp2_with fail
  refine (draw_codin a len cap zs _ HI.out).mono ?_
  rintro e w1 ⟨⟨m, c, rfl, hm0, hm1, hc0, hc1⟩, hb1⟩
  have hI := fun c W => impl_codin m c W
  have HI1 := Lib.hid (fun W => impl_codin m c W); have HS1 := Lib.hid (fun W => spec_codin m c W)
  have HIC := Lib.hid hI
  clear hI
  generalize inB m c = b at *
  go_wp2_with fail
  refine (HI1.out _).mono ?_
  rintro e w2 ⟨rfl, rfl⟩
  go_wp2_with fail
  refine (HS1.out _).mono ?_
  rintro e w2 ⟨rfl, hb2⟩
  have hb02 := Lib.hid (hb1.trans (hb2.mono hb1.size))
  clear hb2 HI1 HS1
  go_wp2
  go_loopw [5, 6, 7] (fun n x i wr => wr = w2 ∧ ∃ k : Nat, k ≤ 3 ∧ i = .int .i64 k ∧ n = .int .i64 (inTo m k : Int) ∧ x = .int .i64 ((2 ^ k : Nat) : Int)) (fun _ _ i _ => 3 - (intOf i).toNat)
  case atStart => exact ⟨rfl, 0, by omega, rfl, by simp [inTo], rfl⟩
  case round =>
    obtain ⟨rfl, k, hk, rfl, rfl, rfl⟩ := hrel
    have h3 : k = 0 ∨ k = 1 ∨ k = 2 ∨ k = 3 := by omega
    have hst := inTo_step m k
    have hle := inTo_le m k
    have hm3 : k = 3 → inTo m 3 = inTo m k := fun h => by rw [h]
    generalize inTo m k = M at *
    have HST := Lib.hid hst; have HM3 := Lib.hid hm3
    clear hst hm3
    rcases h3 with rfl | rfl | rfl | rfl
    · have hC := HIC.out 0 wr
      have hst := HST.out (by decide)
      simp only [show (((0 : Nat)) : Int) = 0 from rfl] at hst
      generalize inB m 0 = bb at *
      have HC := Lib.hid hC
      clear hC HST HM3
      cases bb
      · rw [if_neg (by decide)] at hst
        have HM1 := Lib.hid hst
        clear hst
        go_wp2_with fail
        refine HC.out.mono ?_
        rintro e w3 ⟨rfl, rfl⟩
        go_wp2
        go_roundw
        case rel => exact ⟨trivial, 1, by omega, by go_num, by rw [show inTo m 1 = M from HM1.out], by go_num⟩
        case measure => simp [intOf]
      · rw [if_pos rfl] at hst
        have HM1 := Lib.hid hst
        clear hst
        go_wp2_with fail
        refine HC.out.mono ?_
        rintro e w3 ⟨rfl, rfl⟩
        go_wp2
        go_roundw
        case rel => exact ⟨trivial, 1, by omega, by go_num, by rw [show inTo m 1 = M + 1 from HM1.out]; go_num, by go_num⟩
        case measure => simp [intOf]
    · have hC := HIC.out 1 wr
      have hst := HST.out (by decide)
      simp only [show (((1 : Nat)) : Int) = 1 from rfl] at hst
      generalize inB m 1 = bb at *
      have HC := Lib.hid hC
      clear hC HST HM3
      cases bb
      · rw [if_neg (by decide)] at hst
        have HM1 := Lib.hid hst
        clear hst
        go_wp2_with fail
        refine HC.out.mono ?_
        rintro e w3 ⟨rfl, rfl⟩
        go_wp2
        go_roundw
        case rel => exact ⟨trivial, 2, by omega, by go_num, by rw [show inTo m 2 = M from HM1.out], by go_num⟩
        case measure => simp [intOf]
      · rw [if_pos rfl] at hst
        have HM1 := Lib.hid hst
        clear hst
        go_wp2_with fail
        refine HC.out.mono ?_
        rintro e w3 ⟨rfl, rfl⟩
        go_wp2
        go_roundw
        case rel => exact ⟨trivial, 2, by omega, by go_num, by rw [show inTo m 2 = M + 2 from HM1.out]; go_num, by go_num⟩
        case measure => simp [intOf]
    · have hC := HIC.out 2 wr
      have hst := HST.out (by decide)
      simp only [show (((2 : Nat)) : Int) = 2 from rfl] at hst
      generalize inB m 2 = bb at *
      have HC := Lib.hid hC
      clear hC HST HM3
      cases bb
      · rw [if_neg (by decide)] at hst
        have HM1 := Lib.hid hst
        clear hst
        go_wp2_with fail
        refine HC.out.mono ?_
        rintro e w3 ⟨rfl, rfl⟩
        go_wp2
        go_roundw
        case rel => exact ⟨trivial, 3, by omega, by go_num, by rw [show inTo m 3 = M from HM1.out], by go_num⟩
        case measure => simp [intOf]
      · rw [if_pos rfl] at hst
        have HM1 := Lib.hid hst
        clear hst
        go_wp2_with fail
        refine HC.out.mono ?_
        rintro e w3 ⟨rfl, rfl⟩
        go_wp2
        go_roundw
        case rel => exact ⟨trivial, 3, by omega, by go_num, by rw [show inTo m 3 = M + 4 from HM1.out]; go_num, by go_num⟩
        case measure => simp [intOf]
    · have hm3 := HM3.out rfl
      clear HST HM3
      by_cases hin : 0 ≤ m ∧ m < 8
      · obtain ⟨p, rfl⟩ := Int.eq_ofNat_of_zero_le hin.1
        have hall := inTo_all ⟨p, by omega⟩
        simp only at hall
        rw [hm3] at hall
        subst hall
        have HN1 := Lib.hid (HIC.out (-1)); have HN3 := Lib.hid (HIC.out 3)
        rw [inB_no (.inl (by decide))] at HN1
        rw [inB_no (.inr (by decide))] at HN3
        obtain ⟨i0, i1⟩ := hin
        clear hm3 HIC
        go_wp2_with fail
        refine (HN1.out _).mono ?_
        rintro e w4 ⟨rfl, rfl⟩
        go_wp2_with fail
        refine (HN3.out _).mono ?_
        rintro e w5 ⟨rfl, rfl⟩
        go_wp2
        go_ret
        exact ⟨rfl, hb02.out⟩
      · rw [inTo_out hin] at hm3
        subst hm3
        have hcc : m < 0 ∨ (¬ m < 0 ∧ 8 ≤ m) := by omega
        have hcl := HX.out _ hb02.out
        clear hin HIC
        rcases hcc with c1 | ⟨c1, c2⟩
        all_goals
          go_wp2_with fail
          refine (gd_ok _ hcl).mono ?_
          rintro e w4 ⟨rfl, rfl⟩
          go_wp2
          go_ret
          exact ⟨rfl, hb02.out⟩
namespace Lw
theorem fnCodQ (w : World) (hL : laidMetH Tryd.prog Rows.fnCodQRow.laid w) (a : Option Addr) (len cap : Nat) (zs : List Int) (h : IsRow .u8 w a len cap zs) :
    Calls Tryd.prog 5 #[.slice a len cap] w fun e w' => e = .returned (.bool true) ∧ Below w.heap.size w w' := by
  have hL' : laidMet Tryd.prog Rows.fnCodQRow.laid w := hL
  exact law_codqd a len cap zs w h (cls_of_head hL'.tail.tail.tail.tail.tail) (errs_of_heads hL'.tail.tail.tail)
theorem fnCodIn (w : World) (hL : laidMetH Tryd.prog Rows.fnCodInRow.laid w) (a : Option Addr) (len cap : Nat) (zs : List Int) (h : IsRow .u8 w a len cap zs) :
    Calls Tryd.prog 4 #[.slice a len cap] w fun e w' => e = .returned (.bool true) ∧ Below w.heap.size w w' := by
  have hL' : laidMet Tryd.prog Rows.fnCodInRow.laid w := hL
  exact law_codind a len cap zs w h (cls_of_head hL')
end Lw
end Go.Proofs.YtlfcamapjeldjaaDoor
