/- The law on the text of a field, drawn. -/
import Derived.Test.YtahbnclangfkaaaDoorFPure
import Derived.Test.YtahbnclangfkaaaDoorDrawL2
namespace Go.Proofs.YtahbnclangfkaaaDoor
open Go.RowKit

theorem str_same2 (a : ByteArray) : (a.toList == a.toList) = true := by simp
/-- What does not look at the world. -/
def Blind (R : Value → World → Prop) : Prop := ∀ v w w', R v w → R v w'
theorem blind_at {Rs : List (Value → World → Prop)} (h : ∀ R ∈ Rs, Blind R) {i : Nat} {v : Value} {w w' : World} (hR : RAt Rs i v w) : RAt Rs i v w' := by
  unfold RAt at *
  by_cases hi : i < Rs.length
  · rw [List.getD_eq_getElem?_getD, List.getElem?_eq_getElem hi] at hR ⊢
    exact h _ (List.getElem_mem hi) v w w' hR
  · rw [List.getD_eq_getElem?_getD, List.getElem?_eq_none (by omega)]; trivial
theorem blind_eq (x : Value) : Blind (REq x) := fun _ _ _ h => h

set_option maxRecDepth 100000 in
set_option maxHeartbeats 3200000 in
theorem law_fldtext (a : Option Addr) (len cap : Nat) (zs : List Int) (w : World) (h : IsRow .u8 w a len cap zs) (hcls : Cls w) :
    Calls Tryd.prog 3 #[.slice a len cap] w fun e w' => e = .returned (.bool true) ∧ Below w.heap.size w w' := by
  have hlen := isrow_len h
  have HI := Lib.hid h
  have hCl : ∀ W, Below w.heap.size w W → Cls W := fun W hW => hcls.below hW (Nat.le_refl _)
  have HC := Lib.hid hCl
  clear h hcls hCl
  by_cases hbig : 1048576 < len
  · go_enter Tryd.func3, Tryd.ntmps3
    go_wp2_with fail
    go_ret
    exact ⟨rfl, Below.refl _ _⟩
  · have hb0 : decide ((1048576 : Int) < (len : Int)) = false := by simp; omega
    go_enter Tryd.func3, Tryd.ntmps3
    go_wp2_with fail
    refine (draw_fldtext a len cap zs _ HI.out).mono ?_
    rintro e w1 ⟨s, t, rfl, hs, ht, hb1⟩
    have hb01 := hb1.alloc hb1.size (.cells #[.string s, .string t] 24)
    have ms : s.size ≤ maxLen := by unfold maxLen; omega
    have mt : t.size ≤ maxLen := by unfold maxLen; omega
    have HS := Lib.hid (HC.out _ hb01)
    have hW0 : ∃ W0, W0 = w1.alloc (.cells #[.string s, .string t] 24) := ⟨_, rfl⟩
    obtain ⟨W0, hW0⟩ := hW0
    have hs0 : W0.heap.size = w1.heap.size + 1 := by rw [hW0]; simp
    have hcell : ∀ W, Below W0.heap.size W0 W → W.cell? ⟨w1.heap.size, 0, none⟩ = some (.string s) ∧ W.cell? ⟨w1.heap.size, 1, none⟩ = some (.string t) := fun W hW => by
      have r := (hW.block w1.heap.size (by omega)).trans (show W0.heap[w1.heap.size]? = some (.cells #[.string s, .string t] 24 (0, 0)) by rw [hW0]; exact heap_alloc_new w1 _)
      constructor <;> simp [World.cell?, r]
    have HCell := Lib.hid hcell
    rw [← hW0] at hb01 HS
    have hClW : ∀ W, Below W0.heap.size W0 W → Cls W := fun W hW => HC.out W (hb01.trans (hW.mono hb01.size))
    have HClW := Lib.hid hClW
    have HW0 := Lib.hid hW0
    clear hcell hClW hW0 HI HC hb1
    go_wp2_with fail
    rw [← HW0.out]
    refine (impl_text s t _ ms mt (HClW.out _ (Below.refl _ _))).mono ?_
    rintro e w2 ⟨rfl, hb2⟩
    obtain ⟨c0, c1⟩ := HCell.out w2 hb2
    generalize hT : fdT (s, t) = T at *
    have HT := Lib.hid hT
    clear hT
    go_wp2_with fail
    generalize hO : fdB (s, t) = ok at *
    have HO := Lib.hid hO
    clear hO c0 c1
    refine wp_region_last (by kernel_rfl) 10 (by kernel_rfl) (by kernel_rfl) (by kernel_rfl)
      (fun u => { tmps := #[.slice a len cap, undef, .bool false, .pointer (some ⟨w1.heap.size, 0, none⟩), .string T, undef, undef, undef, undef, undef, undef, .slice a len cap, .int .i64 (len : Int), .bool false, .slice a len cap, .agg #[.string s, .string t], .agg #[.string s, .string t], .string T, u 0, u 1, u 2, u 3, u 4, u 5, u 6, u 7, u 8, u 9, u 10, undef, undef, undef, undef, undef, undef, undef, undef, undef, undef, undef, undef, undef, undef, undef, undef, undef, undef, undef, undef, undef, undef, undef, undef, undef, undef, undef, undef, undef, undef, undef, undef, undef, undef, undef, undef, undef, undef, undef, undef, undef, undef, undef, undef, undef, undef, undef, undef, undef, undef, undef, undef, undef, undef, undef, undef, undef, undef, undef, undef, undef, undef, undef, undef, undef, undef, undef, undef, undef, undef, undef, undef, undef], defers := [] })
      (fun _ W => Below W0.heap.size W0 W)
      (RAt [REq (.string T), REq (.agg #[.string s, .string t]), REq (.string T), REq (.bool false), REq (.bool false), REq (.agg #[.string s, .string t]), REq (.bool ok), REq (.agg #[.string s, .string t]), REq (.bool ok), REq (.bool false)])
      (fun _ _ => True) (fun _ => undef) hb2.drew
      (fun i v w w' hi hR _ => blind_at (by intro R hR; simp only [List.mem_cons, List.not_mem_nil, or_false] at hR; rcases hR with rfl | rfl | rfl | rfl | rfl | rfl | rfl | rfl | rfl | rfl <;> exact blind_eq _) hR) ?_ ?_
    · intro i hi u w3 k hk hC hd
      match i, hi with
      | 0, _ =>
        refine wpOp_step rfl (fun K hK => ?_)
        clear hd
        go_simp
        exact hK _ _ ⟨_, rfl, rfl, trivial, hC⟩
      | 1, _ =>
        obtain ⟨c0, c1⟩ := HCell.out w3 hC
        refine wpOp_step rfl (fun K hK => ?_)
        clear hd
        go_simp
        exact hK _ _ ⟨_, rfl, rfl, trivial, hC⟩
      | 2, _ =>
        have e1 : u 1 = .agg #[.string s, .string t] := hd 1 (dep_of (by kernel_rfl))
        refine wpOp_step rfl (fun K hK => ?_)
        clear hd
        go_simp
        refine (spec_text s t _ ms mt).mono ?_
        rintro e w4 ⟨rfl, hb4⟩
        rw [HT.out]
        exact hK _ _ ⟨_, by simp [upd, e1], rfl, trivial, hC.trans (hb4.mono hC.size)⟩
      | 3, _ =>
        have e0 : u 0 = .string T := hd 0 (dep_of (by kernel_rfl))
        have e2 : u 2 = .string T := hd 2 (dep_of (by kernel_rfl))
        have er : (T.toList != T.toList) = false := by simp
        refine wpOp_step rfl (fun K hK => ?_)
        clear hd
        go_simp
        exact hK _ _ ⟨_, by simp [upd, e0, e2], rfl, trivial, hC⟩
      | 4, _ =>
        have e3 : u 3 = .bool false := hd 3 (dep_of (by kernel_rfl))
        refine wpOp_step rfl (fun K hK => ?_)
        clear hd
        go_simp
        exact hK _ _ ⟨_, by simp [upd, e3], rfl, trivial, hC⟩
      | 5, _ =>
        obtain ⟨c0, c1⟩ := HCell.out w3 hC
        have e4 : u 4 = .bool false := hd 4 (dep_of (by kernel_rfl))
        refine wpOp_step rfl (fun K hK => ?_)
        clear hd
        go_simp
        exact hK _ _ ⟨_, by simp [upd, e4], rfl, trivial, hC⟩
      | 6, _ =>
        have e4 : u 4 = .bool false := hd 4 (dep_of (by kernel_rfl))
        have e5 : u 5 = .agg #[.string s, .string t] := hd 5 (dep_of (by kernel_rfl))
        refine wpOp_step rfl (fun K hK => ?_)
        clear hd
        go_simp
        refine (impl_ok s t _ ms mt (HClW.out _ hC)).mono ?_
        rintro e w4 ⟨rfl, hb4⟩
        rw [HO.out]
        exact hK _ _ ⟨_, by simp [upd, e4, e5], rfl, trivial, hC.trans (hb4.mono hC.size)⟩
      | 7, _ =>
        obtain ⟨c0, c1⟩ := HCell.out w3 hC
        have e4 : u 4 = .bool false := hd 4 (dep_of (by kernel_rfl))
        refine wpOp_step rfl (fun K hK => ?_)
        clear hd
        go_simp
        exact hK _ _ ⟨_, by simp [upd, e4], rfl, trivial, hC⟩
      | 8, _ =>
        have e4 : u 4 = .bool false := hd 4 (dep_of (by kernel_rfl))
        have e7 : u 7 = .agg #[.string s, .string t] := hd 7 (dep_of (by kernel_rfl))
        refine wpOp_step rfl (fun K hK => ?_)
        clear hd
        go_simp
        refine (spec_ok s t _ ms mt).mono ?_
        rintro e w4 ⟨rfl, hb4⟩
        rw [HO.out]
        exact hK _ _ ⟨_, by simp [upd, e4, e7], rfl, trivial, hC.trans (hb4.mono hC.size)⟩
      | 9, _ =>
        have e4 : u 4 = .bool false := hd 4 (dep_of (by kernel_rfl))
        have e6 : u 6 = .bool ok := hd 6 (dep_of (by kernel_rfl))
        have e8 : u 8 = .bool ok := hd 8 (dep_of (by kernel_rfl))
        have er : (ok != ok) = false := by simp
        refine wpOp_step rfl (fun K hK => ?_)
        clear hd
        go_simp
        exact hK _ _ ⟨_, by simp [upd, e4, e6, e8], rfl, trivial, hC⟩
    · intro u w3 k hk hC hd
      have e4 : u 4 = .bool false := hd 4 (by decide)
      have e9 : u 9 = .bool false := hd 9 (by decide)
      refine wpOp_step rfl (fun K hK => ?_)
      clear hd
      go_simp
      refine hK _ _ ?_
      clear hK K e4 e9
      have HB3 := Lib.hid (hb01.trans (hC.mono hb01.size))
      have hC3 := Lib.hid hC
      obtain ⟨c0, c1⟩ := HCell.out w3 hC
      clear hC hb01 hb2
      cases ok
      · have hT0 : T = ⟨#[]⟩ := by rw [← HT.out]; simp [fdT, HO.out]
        subst hT0
        go_wp2_with fail
        refine (spec_ok s t _ ms mt).mono ?_
        rintro e w4 ⟨rfl, hb4⟩
        rw [HO.out]
        have hb04 := hC3.out.trans (hb4.mono hC3.out.size)
        have hcl4 := HClW.out _ hb04
        have hbel := HB3.out.trans (hb4.mono HB3.out.size)
        go_wp2_with fail
        refine (gd_ok _ hcl4).mono ?_
        rintro e w5 ⟨rfl, rfl⟩
        go_wp2
        go_ret
        exact ⟨rfl, hbel⟩
      · obtain ⟨l1, l2⟩ := fdB_len HO.out
        have hTs : T.size ≤ 44 := by
          rw [← HT.out]; unfold fdT; rw [if_pos HO.out]
          show (s ++ ⟨#[58, 32]⟩ ++ t).size ≤ 44
          rw [bytes_app, bytes_app, show (ByteArray.mk #[58, 32]).size = 2 from rfl]; omega
        have hR1 := fun W hW => impl_read T W (by omega) hW
        rw [← HT.out, read_text HO.out, HT.out] at hR1
        have hsm := tok_smalls (fd_parts HO.out).1
        have hGs : (⟨(upL s.data.toList).toArray⟩ ++ ⟨#[58, 32, 32, 32]⟩ ++ t ++ ⟨#[32, 32]⟩ : ByteArray).size ≤ 60 := by
          have : (ByteArray.mk (upL s.data.toList).toArray).size = s.size := by rw [size_len, size_len s]; simp [upL]
          rw [bytes_app, bytes_app, bytes_app, this, show (ByteArray.mk #[58, 32, 32, 32]).size = 4 from rfl, show (ByteArray.mk #[32, 32]).size = 2 from rfl]; omega
        have hR2 := fun W hW => impl_read (⟨(upL s.data.toList).toArray⟩ ++ ⟨#[58, 32, 32, 32]⟩ ++ t ++ ⟨#[32, 32]⟩) W (by omega) hW
        rw [show (⟨(upL s.data.toList).toArray⟩ ++ ⟨#[58, 32, 32, 32]⟩ ++ t ++ ⟨#[32, 32]⟩ : ByteArray).data.toList = upL s.data.toList ++ [58, 32, 32, 32] ++ t.data.toList ++ [32, 32] from by simp, read_great HO.out] at hR2
        unfold fdV at hR1 hR2
        simp only at hR1 hR2
        have HR2 := Lib.hid hR2; have HSM := Lib.hid hsm
        clear hR2 hsm hGs
        go_wp2_with fail
        refine (spec_ok s t _ ms mt).mono ?_
        rintro e w4 ⟨rfl, hb4⟩
        rw [HO.out]
        have hb04 := hC3.out.trans (hb4.mono hC3.out.size)
        have hbel4 := HB3.out.trans (hb4.mono HB3.out.size)
        clear c0 c1 hb4
        go_wp2_with fail
        refine (hR1 _ (HClW.out _ hb04)).mono ?_
        rintro e w5 ⟨rfl, hb5⟩
        have hb05 := hb04.trans (hb5.mono hb04.size)
        have hbel5 := hbel4.trans (hb5.mono hbel4.size)
        have hb06 := hb05.alloc hb05.size (.cells #[.string s, .string t] 24)
        have hbel6 := hbel5.alloc hbel5.size (.cells #[.string s, .string t] 24)
        obtain ⟨W6, hW6⟩ : ∃ W6, W6 = w5.alloc (.cells #[.string s, .string t] 24) := ⟨_, rfl⟩
        have hs6 : W6.heap.size = w5.heap.size + 1 := by rw [hW6]; simp
        have hx6 : ∀ W, Below W6.heap.size W6 W → W.cell? ⟨w5.heap.size, 0, none⟩ = some (.string s) ∧ W.cell? ⟨w5.heap.size, 1, none⟩ = some (.string t) := fun W hW => by
          have r := (hW.block w5.heap.size (by omega)).trans (show W6.heap[w5.heap.size]? = some (.cells #[.string s, .string t] 24 (0, 0)) by rw [hW6]; exact heap_alloc_new w5 _)
          constructor <;> simp [World.cell?, r]
        rw [← hW6] at hb06 hbel6
        have HX6 := Lib.hid hx6; have HW6 := Lib.hid hW6; have HB6 := Lib.hid hbel6; have H06 := Lib.hid hb06
        clear hx6 hW6 hb5 hb05 hbel5 hb04 hbel4 hR1 hbel6 hb06
        go_wp2_with fail
        rw [← HW6.out]
        go_loopw [7, 8] (fun x i wr => ∃ k : Nat, k ≤ s.size ∧ i = .int .i64 k ∧ x = .string ⟨(upL (s.data.toList.take k)).toArray⟩ ∧ Below W6.heap.size W6 wr) (fun _ i _ => s.size - (intOf i).toNat)
        case atStart => exact ⟨0, Nat.zero_le _, rfl, by simp [upL], Below.refl _ _⟩
        case round =>
          obtain ⟨k, hk, rfl, rfl, hb⟩ := hrel
          obtain ⟨d0, d1⟩ := HCell.out wr (H06.out.trans (hb.mono H06.out.size))
          have hsz : (upL (s.data.toList.take k)).length ≤ 12 := by simp [upL]; omega
          by_cases hlt : k < s.size
          · have hsn : upL (s.data.toList.take (k + 1)) = upL (s.data.toList.take k) ++ [upB s[k]] := by
              rw [take_succ_at (at_get s k hlt)]; simp [upL]
            have hext := ext_one s k hlt
            generalize upL (s.data.toList.take k) = acc at *
            have hup : upB s[k] = if 97 ≤ s[k].toNat ∧ s[k].toNat ≤ 122 then s[k] - 32 else s[k] := rfl
            have hc8 := s[k].toNat_lt
            have HSN := Lib.hid hsn; have HEX := Lib.hid hext; have HL := Lib.hid hup
            clear hsn hext hup
            by_cases hg : 97 ≤ s[k].toNat ∧ s[k].toNat ≤ 122
            · obtain ⟨h1, h2⟩ := hg
              have hcv := fun W => run_conv1 (P := Tryd.prog) 22 9 5 5 Tryd.underlying22 Tryd.underlying5 Tryd.underlying9 W ((s[k].toNat : Int) - 32) (by omega) (by omega)
              have hx : UInt8.ofNat ((s[k].toNat : Int) - 32).toNat = upB s[k] := by
                rw [HL.out, if_pos ⟨h1, h2⟩]
                apply UInt8.toNat_inj.mp
                rw [UInt8.toNat_sub_of_le _ _ (by rw [UInt8.le_iff_toNat_le]; simp; omega)]
                simp
                omega
              rw [hx] at hcv
              clear hx
              go_wp2_with fail
              go_roundw
              case rel =>
                refine ⟨k + 1, by omega, by go_num, ?_, hb.alloc hb.size _⟩
                rw [HSN.out]
                exact congrArg Value.string (cat_mk acc [upB s[k]])
              case measure => simp [intOf]; omega
            · have hx : upB s[k] = s[k] := by rw [HL.out, if_neg hg]
              have HX := Lib.hid hx; clear hx
              have hg2 : s[k].toNat < 97 ∨ (97 ≤ s[k].toNat ∧ 122 < s[k].toNat) := by omega
              have hes : (s.extract k (k + 1)).size ≤ 1 := by rw [ByteArray.size_extract]; omega
              rcases hg2 with hg2 | ⟨hg2, hg3⟩
              all_goals
                go_wp2_with fail
                go_roundw
                case rel =>
                  refine ⟨k + 1, by omega, by go_num, ?_, hb⟩
                  rw [HSN.out, HX.out, HEX.out]
                  exact congrArg Value.string (cat_mk acc [s[k]])
                case measure => simp [intOf]; omega
          · have hks : s.data.toList.length ≤ k := by rw [← size_len]; omega
            rw [List.take_of_length_le hks]
            have hR2 := HR2.out
            have hgl : (⟨(upL s.data.toList).toArray⟩ : ByteArray).size ≤ 12 := by rw [List.take_of_length_le hks] at hsz; rw [size_len]; simpa using hsz
            generalize (⟨(upL s.data.toList).toArray⟩ : ByteArray) = G at *
            have hbf := H06.out.trans (hb.mono H06.out.size)
            have hbw := HB6.out.trans (hb.mono HB6.out.size)
            go_wp2_with fail
            refine (hR2 _ (HClW.out _ hbf)).mono ?_
            rintro e w7 ⟨rfl, hb7⟩
            have hb8 := hb7.alloc hb7.size (.cells #[.string s, .string t] 24)
            obtain ⟨g0, g1⟩ := HX6.out _ (hb.trans (hb8.mono hb.size))
            obtain ⟨f0, f1⟩ := HCell.out _ (hbf.trans (hb8.mono hbf.size))
            have hbel := hbw.trans (hb8.mono hbw.size)
            have es := str_same2 s
            have et := str_same2 t
            clear hR2 hb hb7 hb8 hbf hbw d0 d1 HR2 HCell HX6 HClW H06 HB6
            go_wp2
            go_ret
            exact ⟨rfl, hbel⟩
namespace Lw
theorem fnFldText (w : World) (hL : laidMetH Tryd.prog Rows.fnFldTextRow.laid w) (a : Option Addr) (len cap : Nat) (zs : List Int) (h : IsRow .u8 w a len cap zs) :
    Calls Tryd.prog 3 #[.slice a len cap] w fun e w' => e = .returned (.bool true) ∧ Below w.heap.size w w' := by
  have hL' : laidMet Tryd.prog Rows.fnFldTextRow.laid w := hL
  exact law_fldtext a len cap zs w h (cls_of_head hL'.tail)
end Lw
end Go.Proofs.YtahbnclangfkaaaDoor
