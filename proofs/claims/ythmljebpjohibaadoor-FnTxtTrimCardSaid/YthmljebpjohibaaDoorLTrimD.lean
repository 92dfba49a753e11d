/- The law on cutting spaces off, over drawn inputs. -/
import Derived.Test.YthmljebpjohibaaDoorGdOk
import Derived.Test.YthmljebpjohibaaDoorDrawT
namespace Go.Proofs.YthmljebpjohibaaDoor
open Go.RowKit

def nsp (l : List UInt8) : Nat := (l.filter (fun b => b != 32)).length
def csp (l : List UInt8) : Nat := (l.filter (fun b => b == 32)).length
theorem nsp_csp (l : List UInt8) : nsp l + csp l = l.length := by
  induction l with
  | nil => rfl
  | cons b l ih =>
    unfold nsp csp at ih ⊢
    by_cases h : b = 32
    · simp [h]; omega
    · simp [h]; omega
theorem nsp_dropWhile (l : List UInt8) : nsp (l.dropWhile (· == 32)) = nsp l := by
  induction l with
  | nil => rfl
  | cons b l ih =>
    rw [List.dropWhile_cons]
    by_cases h : b = 32
    · subst h
      simp only [beq_self_eq_true, if_true]
      rw [ih]; simp [nsp]
    · have : (b == 32) = false := by simp [h]
      rw [this]; rfl
theorem nsp_reverse (l : List UInt8) : nsp l.reverse = nsp l := by
  unfold nsp; rw [List.filter_reverse, List.length_reverse]
theorem nsp_trim (l : List UInt8) : nsp (Lib.trimB l 32) = nsp l := by
  unfold Lib.trimB Lib.trimLeftB Lib.trimRightB
  rw [nsp_dropWhile, nsp_reverse, nsp_dropWhile, nsp_reverse]

theorem dropWhile_head (l : List UInt8) : ∀ b, (l.dropWhile (· == 32))[0]? = some b → b ≠ 32 := by
  induction l with
  | nil => intro b h; simp at h
  | cons c l ih =>
    intro b h
    rw [List.dropWhile_cons] at h
    by_cases hc : c = 32
    · subst hc
      simp only [beq_self_eq_true, if_true] at h
      exact ih b h
    · have : (c == 32) = false := by simp [hc]
      rw [this] at h
      simp at h
      rw [← h]; exact hc
theorem dropWhile_suffix (p : UInt8 → Bool) (l : List UInt8) : ∃ k, l.dropWhile p = l.drop k := by
  induction l with
  | nil => exact ⟨0, rfl⟩
  | cons c l ih =>
    rw [List.dropWhile_cons]
    split
    · obtain ⟨k, hk⟩ := ih; exact ⟨k + 1, by rw [hk]; rfl⟩
    · exact ⟨0, rfl⟩
theorem trim_head (l : List UInt8) : ∀ b, (Lib.trimB l 32)[0]? = some b → b ≠ 32 := dropWhile_head _
theorem trim_last (l : List UInt8) : ∀ b, (Lib.trimB l 32)[(Lib.trimB l 32).length - 1]? = some b → b ≠ 32 := by
  intro b hb
  unfold Lib.trimB Lib.trimLeftB at hb
  obtain ⟨k, hk⟩ := dropWhile_suffix (· == 32) (Lib.trimRightB l 32)
  rw [hk] at hb
  have hX : ∀ b, (Lib.trimRightB l 32)[(Lib.trimRightB l 32).length - 1]? = some b → b ≠ 32 := by
    intro b hb
    unfold Lib.trimRightB at hb
    rw [List.length_reverse] at hb
    have h2 := dropWhile_head l.reverse b
    rcases Nat.eq_zero_or_pos (l.reverse.dropWhile (· == 32)).length with h0 | h0
    · rw [List.getElem?_eq_none (by simp [h0])] at hb; cases hb
    · rw [List.getElem?_reverse (by omega)] at hb
      apply h2
      rw [← hb]; congr 1; omega
  rcases Nat.lt_or_ge k (Lib.trimRightB l 32).length with h | h
  · apply hX
    rw [← hb, List.getElem?_drop, List.length_drop]
    congr 1; omega
  · rw [List.drop_of_length_le h] at hb; simp at hb
theorem trim_idem (l : List UInt8) : Lib.trimB (Lib.trimB l 32) 32 = Lib.trimB l 32 := by
  have h1 := trim_head l
  have h2 := trim_last l
  generalize Lib.trimB l 32 = t at *
  unfold Lib.trimB
  rw [Lib.trimRightB_take t 32 t.length (Nat.le_refl _) (fun j b hj hb => by rw [List.getElem?_eq_none hj] at hb; cases hb) (fun b _ hb => h2 b hb)]
  rw [List.take_length, Lib.trimLeftB_drop t 32 0 (by omega) (fun j b hj _ => by omega) (fun b hb => h1 b hb)]
  rfl

theorem csp_yes {s : ByteArray} {k : Nat} (hk : k < s.size) (h : s[k] = 32) : csp (s.data.toList.take (k + 1)) = csp (s.data.toList.take k) + 1 := by
  rw [take_succ_at (at_get s k hk)]; unfold csp; rw [List.filter_append, List.length_append]; simp [h]
theorem csp_no {s : ByteArray} {k : Nat} (hk : k < s.size) (h : s[k] ≠ 32) : csp (s.data.toList.take (k + 1)) = csp (s.data.toList.take k) := by
  rw [take_succ_at (at_get s k hk)]; unfold csp; rw [List.filter_append, List.length_append]; simp [h]

theorem csp_le (l : List UInt8) (k : Nat) : csp (l.take k) ≤ k := by
  have := nsp_csp (l.take k)
  have h2 : (l.take k).length ≤ k := by rw [List.length_take]; omega
  omega

set_option maxRecDepth 100000 in
set_option maxHeartbeats 3200000 in
theorem law_txttrim (a : Option Addr) (len cap : Nat) (zs : List Int) (w : World) (h : IsRow .u8 w a len cap zs) (hc : Cls w) :
    Calls Tryd.prog 3 #[.slice a len cap] w fun e w' => e = .returned (.bool true) ∧ Below w.heap.size w w' := by
  have hlm := isrow_len h
  by_cases hbig : 1048576 < len
  · clear h hc
    go_enter Tryd.func3, Tryd.ntmps3
    go_wp2_with fail
    go_ret
    exact ⟨rfl, Below.refl _ _⟩
  · have HC := Lib.hid hc; clear hc
    go_enter Tryd.func3, Tryd.ntmps3
    go_wp2_with fail
    refine (draw_trim _ _ _ _ _ h).mono ?_
    rintro e w1 ⟨s, rfl, hs, hb1⟩
    clear h
    go_wp2_with fail
    refine (impl_trim s _ (by omega)).mono ?_
    rintro e w2 ⟨rfl, hb2⟩
    have hbel2 := hb1.trans (hb2.mono hb1.size)
    go_wp2_with fail
    refine (spec_trim s _ (by unfold maxLen; omega)).mono ?_
    rintro e w3 ⟨rfl, rfl⟩
    have htd : (ByteArray.mk (Lib.trimB s.data.toList 32).toArray).data.toList = Lib.trimB s.data.toList 32 := by simp
    have hle := trimB_len s.data.toList 32
    have hn := nsp_trim s.data.toList
    have hid := trim_idem s.data.toList
    have hhd := trim_head s.data.toList
    have hlast := trim_last s.data.toList
    simp only [strV]
    generalize ht : ByteArray.mk (Lib.trimB s.data.toList 32).toArray = t at *
    rw [← htd] at hle hn hid hhd hlast
    clear htd
    have hts : t.size ≤ s.size := by rw [size_len, size_len]; exact hle
    have hidv : strV (Lib.trimB t.data.toList 32) = .string t := by rw [hid]
    have HID := Lib.hid hidv; have HT := Lib.hid ht; have HN := Lib.hid hn; have HH := Lib.hid hhd; have HLA := Lib.hid hlast
    clear hidv ht hn hhd hlast hid hle
    go_wp2_with fail
    refine (impl_trim t _ (by omega)).mono ?_
    rintro e w4 ⟨rfl, hb4⟩
    rw [HID.out]
    have hbel4 := hbel2.trans (hb4.mono hbel2.size)
    have HC4 := Lib.hid (HC.out.below hbel4 (Nat.le_refl _))
    have HB4 := Lib.hid hbel4
    clear hbel2 hbel4 hb1 hb2 hb4
    have fin : (s.size : Int) - (csp s.data.toList : Nat) = (t.size : Int) - (csp t.data.toList : Nat) := by
      have h1 := nsp_csp s.data.toList
      have h2 := nsp_csp t.data.toList
      have h3 := HN.out
      rw [← size_len] at h1 h2
      omega
    have FIN := Lib.hid fin; clear fin
    have hcs : csp s.data.toList ≤ s.size := by have := nsp_csp s.data.toList; rw [← size_len] at this; omega
    have hct : csp t.data.toList ≤ t.size := by have := nsp_csp t.data.toList; rw [← size_len] at this; omega
    by_cases ht0 : t.size = 0
    · have hq : t.toList = [] := by
        rw [Lib.toList_data]
        apply List.eq_nil_of_length_eq_zero
        rw [← size_len]; exact ht0
      go_wp2_with fail
      clear ht0 hq
      go_loop [5, 6] (fun n i => ∃ k : Nat, k ≤ s.size ∧ i = .int .i64 k ∧ n = .int .i64 (csp (s.data.toList.take k))) (fun _ i => s.size - (intOf i).toNat)
      case atStart => exact ⟨0, Nat.zero_le _, rfl, rfl⟩
      case round =>
        obtain ⟨k, hk, rfl, rfl⟩ := hrel
        by_cases hlt : k < s.size
        · have hcl := csp_le s.data.toList k
          have hx : s[k] = 32 ∨ s[k] ≠ 32 := Decidable.em _
          rcases hx with hx | hx
          · have hstep := csp_yes hlt hx
            have hb : ((s[k].toNat : Int) == 32) = true := by rw [hx]; rfl
            clear hx
            generalize csp (s.data.toList.take k) = c at *
            have HST := Lib.hid hstep; clear hstep
            go_wp2
            go_round
            case rel => exact ⟨k + 1, by omega, by go_num, by rw [HST.out]; go_num⟩
            case measure => simp [intOf]; omega
          · have hstep := csp_no hlt hx
            have hb : ((s[k].toNat : Int) == 32) = false := byte_ne32 hx
            clear hx
            generalize csp (s.data.toList.take k) = c at *
            have HST := Lib.hid hstep; clear hstep
            go_wp2
            go_round
            case rel => exact ⟨k + 1, by omega, by go_num, by rw [HST.out]⟩
            case measure => simp [intOf]; omega
        · have hks : s.data.toList.length ≤ k := by rw [← size_len]; omega
          rw [List.take_of_length_le hks]
          clear hks
          go_wp2_with fail
          go_loop [7, 8] (fun n i => ∃ k : Nat, k ≤ t.size ∧ i = .int .i64 k ∧ n = .int .i64 (csp (t.data.toList.take k))) (fun _ i => t.size - (intOf i).toNat)
          case atStart => exact ⟨0, Nat.zero_le _, rfl, rfl⟩
          case round =>
            obtain ⟨k, hk, rfl, rfl⟩ := hrel
            by_cases hlt : k < t.size
            · have hcl := csp_le t.data.toList k
              have hx : t[k] = 32 ∨ t[k] ≠ 32 := Decidable.em _
              rcases hx with hx | hx
              · have hstep := csp_yes hlt hx
                have hb : ((t[k].toNat : Int) == 32) = true := by rw [hx]; rfl
                clear hx
                generalize csp (t.data.toList.take k) = c at *
                have HST := Lib.hid hstep; clear hstep
                go_wp2
                go_round
                case rel => exact ⟨k + 1, by omega, by go_num, by rw [HST.out]; go_num⟩
                case measure => simp [intOf]; omega
              · have hstep := csp_no hlt hx
                have hb : ((t[k].toNat : Int) == 32) = false := byte_ne32 hx
                clear hx
                generalize csp (t.data.toList.take k) = c at *
                have HST := Lib.hid hstep; clear hstep
                go_wp2
                go_round
                case rel => exact ⟨k + 1, by omega, by go_num, by rw [HST.out]⟩
                case measure => simp [intOf]; omega
            · have hks : t.data.toList.length ≤ k := by rw [← size_len]; omega
              rw [List.take_of_length_le hks]
              clear hks
              generalize csp s.data.toList = c1 at *
              generalize csp t.data.toList = c2 at *
              have heq : (((s.size : Int) - (c1 : Int)) == ((t.size : Int) - (c2 : Int))) = true := by have := FIN.out; simp; omega
              go_wp2_with fail
              refine (gd_ok _ HC4.out).mono ?_
              rintro e w5 ⟨rfl, rfl⟩
              go_wp2
              go_ret
              exact ⟨rfl, HB4.out⟩
    · have h0 : 0 < t.size := by omega
      have h1 : t.size - 1 < t.size := by omega
      have hq : (t.toList = []) = False := by
        rw [Lib.toList_data]
        refine eq_false (fun h => ht0 ?_)
        rw [size_len, h]; rfl
      have e0 : ((t[0].toNat : Int) == 32) = false := byte_ne32 (HH.out _ (at_get t 0 h0))
      have e1 : ((t[t.size - 1].toNat : Int) == 32) = false := byte_ne32 (HLA.out _ (by rw [← size_len]; exact at_get t (t.size - 1) h1))
      go_wp2_with fail
      clear ht0 hq e0 e1
      go_loop [5, 6] (fun n i => ∃ k : Nat, k ≤ s.size ∧ i = .int .i64 k ∧ n = .int .i64 (csp (s.data.toList.take k))) (fun _ i => s.size - (intOf i).toNat)
      case atStart => exact ⟨0, Nat.zero_le _, rfl, rfl⟩
      case round =>
        obtain ⟨k, hk, rfl, rfl⟩ := hrel
        by_cases hlt : k < s.size
        · have hcl := csp_le s.data.toList k
          have hx : s[k] = 32 ∨ s[k] ≠ 32 := Decidable.em _
          rcases hx with hx | hx
          · have hstep := csp_yes hlt hx
            have hb : ((s[k].toNat : Int) == 32) = true := by rw [hx]; rfl
            clear hx
            generalize csp (s.data.toList.take k) = c at *
            have HST := Lib.hid hstep; clear hstep
            go_wp2
            go_round
            case rel => exact ⟨k + 1, by omega, by go_num, by rw [HST.out]; go_num⟩
            case measure => simp [intOf]; omega
          · have hstep := csp_no hlt hx
            have hb : ((s[k].toNat : Int) == 32) = false := byte_ne32 hx
            clear hx
            generalize csp (s.data.toList.take k) = c at *
            have HST := Lib.hid hstep; clear hstep
            go_wp2
            go_round
            case rel => exact ⟨k + 1, by omega, by go_num, by rw [HST.out]⟩
            case measure => simp [intOf]; omega
        · have hks : s.data.toList.length ≤ k := by rw [← size_len]; omega
          rw [List.take_of_length_le hks]
          clear hks
          go_wp2_with fail
          go_loop [7, 8] (fun n i => ∃ k : Nat, k ≤ t.size ∧ i = .int .i64 k ∧ n = .int .i64 (csp (t.data.toList.take k))) (fun _ i => t.size - (intOf i).toNat)
          case atStart => exact ⟨0, Nat.zero_le _, rfl, rfl⟩
          case round =>
            obtain ⟨k, hk, rfl, rfl⟩ := hrel
            by_cases hlt : k < t.size
            · have hcl := csp_le t.data.toList k
              have hx : t[k] = 32 ∨ t[k] ≠ 32 := Decidable.em _
              rcases hx with hx | hx
              · have hstep := csp_yes hlt hx
                have hb : ((t[k].toNat : Int) == 32) = true := by rw [hx]; rfl
                clear hx
                generalize csp (t.data.toList.take k) = c at *
                have HST := Lib.hid hstep; clear hstep
                go_wp2
                go_round
                case rel => exact ⟨k + 1, by omega, by go_num, by rw [HST.out]; go_num⟩
                case measure => simp [intOf]; omega
              · have hstep := csp_no hlt hx
                have hb : ((t[k].toNat : Int) == 32) = false := byte_ne32 hx
                clear hx
                generalize csp (t.data.toList.take k) = c at *
                have HST := Lib.hid hstep; clear hstep
                go_wp2
                go_round
                case rel => exact ⟨k + 1, by omega, by go_num, by rw [HST.out]⟩
                case measure => simp [intOf]; omega
            · have hks : t.data.toList.length ≤ k := by rw [← size_len]; omega
              rw [List.take_of_length_le hks]
              clear hks
              generalize csp s.data.toList = c1 at *
              generalize csp t.data.toList = c2 at *
              have heq : (((s.size : Int) - (c1 : Int)) == ((t.size : Int) - (c2 : Int))) = true := by have := FIN.out; simp; omega
              go_wp2_with fail
              refine (gd_ok _ HC4.out).mono ?_
              rintro e w5 ⟨rfl, rfl⟩
              go_wp2
              go_ret
              exact ⟨rfl, HB4.out⟩
namespace Lw
theorem fnTxtTrim (w : World) (hL : laidMetH Tryd.prog Rows.fnTxtTrimRow.laid w) (a : Option Addr) (len cap : Nat) (zs : List Int) (h : IsRow .u8 w a len cap zs) :
    Calls Tryd.prog 3 #[.slice a len cap] w fun e w' => e = .returned (.bool true) ∧ Below w.heap.size w w' := by
  have hL' : laidMet Tryd.prog Rows.fnTxtTrimRow.laid w := hL
  exact law_txttrim a len cap zs w h (cls_of_head hL'.tail)
end Lw
end Go.Proofs.YthmljebpjohibaaDoor
