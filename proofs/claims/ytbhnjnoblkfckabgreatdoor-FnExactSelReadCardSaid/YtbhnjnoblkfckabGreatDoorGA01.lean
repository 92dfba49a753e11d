import Derived.Test.YtbhnjnoblkfckabGreatDoorGA00
import Derived.Test.YtbhnjnoblkfckabGreatDoorShelf
import Derived.Lib.TrimByte
import Derived.Stop.LaidErr
-- from XTrim
/- Walks: cutting spaces off. -/
namespace Go.Proofs.YtbhnjnoblkfckabGreatDoor
open Go.RowKit

def Head32 (l : List UInt8) (k : Nat) : Prop := ∀ (j : Nat) b, j < k → l[j]? = some b → b = 32
def Stop32 (l : List UInt8) (k : Nat) : Prop := ∀ b, l[k]? = some b → b ≠ 32
def Tail32 (l : List UInt8) (m : Nat) : Prop := ∀ (j : Nat) b, m ≤ j → l[j]? = some b → b = 32

theorem byte_ne32 {b : UInt8} (h : b ≠ 32) : ((b.toNat : Int) == 32) = false := by
  rw [beq_eq_false_iff_ne]
  intro e
  apply h
  apply UInt8.toNat_inj.mp
  have : (32 : UInt8).toNat = 32 := rfl
  omega
theorem byte_eq32 {b : UInt8} (h : b = 32) : ((b.toNat : Int) == 32) = true := by subst h; rfl
theorem head32_step {s : ByteArray} {k : Nat} (hk : k < s.size) (h : Head32 s.data.toList k) (hb : s[k] = 32) : Head32 s.data.toList (k + 1) := by
  intro j b hj hjb
  rcases Nat.lt_or_ge j k with h1 | h1
  · exact h j b h1 hjb
  · have : j = k := by omega
    subst this
    rw [at_get s j hk] at hjb
    injection hjb with e
    rw [← e, hb]
theorem tail32_end (s : ByteArray) : Tail32 s.data.toList s.size := by
  intro j b hj hjb
  rw [List.getElem?_eq_none (by rw [← size_len]; exact hj)] at hjb; cases hjb
theorem tail32_step {s : ByteArray} {m : Nat} (hm : m < s.size) (h : Tail32 s.data.toList (m + 1)) (hb : s[m] = 32) : Tail32 s.data.toList m := by
  intro j b hj hjb
  rcases Nat.lt_or_ge m j with h1 | h1
  · exact h j b h1 hjb
  · have : j = m := by omega
    subst this
    rw [at_get s j hm] at hjb
    injection hjb with e
    rw [← e, hb]

theorem trim_fin (s : ByteArray) (k m : Nat) (hkm : k ≤ m) (hm : m ≤ s.size) (h1 : Head32 s.data.toList k) (h2 : Stop32 s.data.toList k) (h3 : Tail32 s.data.toList m)
    (h4 : m = k ∨ ∀ b, s.data.toList[m - 1]? = some b → b ≠ 32) : s.extract k m = ⟨(Lib.trimB s.data.toList 32).toArray⟩ := by
  have hlen := size_len s
  have hex : s.extract k m = ⟨((s.data.toList.take m).drop k).toArray⟩ := by
    apply ByteArray.ext
    apply Array.toList_inj.mp
    rw [ByteArray.data_extract, Array.toList_extract, List.extract_eq_take_drop, List.drop_take]
  rw [hex]
  congr 2
  unfold Lib.trimB
  rcases Nat.lt_or_ge k m with hlt | hge
  · have h4' := h4.resolve_left (by omega)
    rw [Lib.trimRightB_take s.data.toList 32 m (by omega) (fun j b hj hb => h3 j b hj hb) (fun b _ hb => h4' b hb)]
    rw [Lib.trimLeftB_drop (s.data.toList.take m) 32 k (by rw [List.length_take]; omega) (fun j b hj hb => ?_) (fun b hb => ?_)]
    · rw [List.getElem?_take, if_pos (by omega)] at hb
      exact h1 j b hj hb
    · rw [List.getElem?_take, if_pos hlt] at hb
      exact h2 b hb
  · have e : m = k := by omega
    subst e
    have hall : ∀ (j : Nat) b, s.data.toList[j]? = some b → b = 32 := fun j b hb => by
      rcases Nat.lt_or_ge j m with h | h
      · exact h1 j b h hb
      · exact h3 j b h hb
    rw [Lib.trimRightB_take s.data.toList 32 0 (by omega) (fun j b _ hb => hall j b hb) (fun b h0 _ => by omega)]
    rw [List.drop_of_length_le (by rw [List.length_take]; omega)]
    rfl

set_option maxHeartbeats 800000 in
theorem spec_trim (s : ByteArray) (w : World) (hs : s.size ≤ maxLen) :
    Calls Tryz.prog 162 #[.string s] w fun e w' => e = .returned (strV (Lib.trimB s.data.toList 32)) ∧ w = w' := by
  unfold maxLen at hs
  go_enter Tryz.func162, Tryz.ntmps162
  go_wp2_with fail
  go_loop [3] (fun i => ∃ k : Nat, k ≤ s.size ∧ i = .int .i64 k ∧ Head32 s.data.toList k) (fun i => s.size - (intOf i).toNat)
  case atStart => exact ⟨0, Nat.zero_le _, rfl, fun j b hj _ => by omega⟩
  case round =>
    obtain ⟨k, hk, rfl, hlo⟩ := hrel
    have HLO := Lib.hid hlo; clear hlo
    by_cases hlt : k < s.size
    · by_cases hb : s[k] = 32
      · have he : ((s[k].toNat : Int) == 32) = true := byte_eq32 hb
        have hst := head32_step hlt HLO.out hb
        have HST := Lib.hid hst; clear hst hb
        go_wp2
        go_round
        case rel => exact ⟨k + 1, by omega, by go_num, HST.out⟩
        case measure => simp [intOf]; omega
      · have he : ((s[k].toNat : Int) == 32) = false := byte_ne32 hb
        have hex : Stop32 s.data.toList k := by
          intro b hb2
          rw [at_get s k hlt] at hb2
          exact fun e => hb ((Option.some.inj hb2).trans e)
        have HEX := Lib.hid hex; clear hex hb
        go_wp2_with fail
        have hk2 : k ≤ s.size := hk
        clear hk
        go_loop [4] (fun i => ∃ m : Nat, k ≤ m ∧ m ≤ s.size ∧ i = .int .i64 m ∧ Tail32 s.data.toList m) (fun i => (intOf i).toNat)
        case atStart => exact ⟨s.size, hk2, Nat.le_refl _, rfl, tail32_end s⟩
        case round =>
          obtain ⟨m, hkm, hm, rfl, ht⟩ := hrel
          have HT := Lib.hid ht; clear ht
          by_cases hgt : k < m
          · obtain ⟨m', rfl⟩ : ∃ m', m = m' + 1 := ⟨m - 1, by omega⟩
            have hml : m' < s.size := by omega
            by_cases hb : s[m'] = 32
            · have he : ((s[m'].toNat : Int) == 32) = true := byte_eq32 hb
              have hst := tail32_step hml HT.out hb
              have HST := Lib.hid hst; clear hst hb
              go_wp2
              go_round
              case rel => exact ⟨m', by omega, by omega, by go_num, HST.out⟩
              case measure => first | (simp [intOf]; done) | (simp [intOf]; omega)
            · have he : ((s[m'].toNat : Int) == 32) = false := byte_ne32 hb
              have hfin := trim_fin s k (m' + 1) hkm hm HLO.out HEX.out HT.out (.inr (by
                intro b hb2
                rw [Nat.add_sub_cancel, at_get s m' hml] at hb2
                exact fun e => hb ((Option.some.inj hb2).trans e)))
              have HF := Lib.hid hfin; clear hfin hb
              go_wp2
              go_ret
              exact ⟨congrArg (fun x => Ending.returned (Value.string x)) HF.out, rfl⟩
          · have hkm' : m = k := by omega
            subst hkm'
            have hfin := trim_fin s m m (Nat.le_refl _) hm HLO.out HEX.out HT.out (.inl rfl)
            rw [show s.extract m m = ByteArray.empty from by simp] at hfin
            have HF := Lib.hid hfin; clear hfin
            go_wp2
            go_ret
            exact ⟨congrArg (fun x => Ending.returned (Value.string x)) HF.out, rfl⟩
    · have hex : Stop32 s.data.toList k := by
        intro b hb2
        rw [List.getElem?_eq_none (by rw [← size_len]; omega)] at hb2; cases hb2
      have HEX := Lib.hid hex; clear hex
      go_wp2_with fail
      have hk2 : k ≤ s.size := hk
      clear hk
      go_loop [4] (fun i => ∃ m : Nat, k ≤ m ∧ m ≤ s.size ∧ i = .int .i64 m ∧ Tail32 s.data.toList m) (fun i => (intOf i).toNat)
      case atStart => exact ⟨s.size, hk2, Nat.le_refl _, rfl, tail32_end s⟩
      case round =>
        obtain ⟨m, hkm, hm, rfl, ht⟩ := hrel
        have HT := Lib.hid ht; clear ht
        by_cases hgt : k < m
        · exfalso; omega
        · have hkm' : m = k := by omega
          subst hkm'
          have hfin := trim_fin s m m (Nat.le_refl _) hm HLO.out HEX.out HT.out (.inl rfl)
          rw [show s.extract m m = ByteArray.empty from by simp] at hfin
          have HF := Lib.hid hfin; clear hfin
          go_wp2
          go_ret
          exact ⟨congrArg (fun x => Ending.returned (Value.string x)) HF.out, rfl⟩

set_option maxHeartbeats 400000 in
theorem fresh_t (s : ByteArray) (w : World) (hs : s.size ≤ 281474976710656) :
    Calls Tryz.prog 43 #[.string s] w fun e w' => e = .returned (.string s) ∧ Below w.heap.size w w' := by
  go_enter Tryz.func43, Tryz.ntmps43
  go_wp2_with (first | (go_at_call 134; refine (Tryz.stringslite_Clone _ _ hs).mono ?_; rintro e w' ⟨rfl, hb⟩) | go_in)
  go_ret
  exact ⟨rfl, hb⟩

set_option maxHeartbeats 400000 in
theorem text_trim (s : ByteArray) (w : World) (hs : s.size ≤ maxLen) :
    Calls Tryz.prog 158 #[.string s] w fun e w' => e = .returned (strV (Lib.trimB s.data.toList 32)) ∧ ∃ n, w' = w.drewN n := by
  go_enter Tryz.func158, Tryz.ntmps158
  go_wp2_with fail
  refine (Tryz.strings_Trim_one s 32 (by decide) _ (by unfold maxLen at hs; omega)).mono ?_
  rintro e w1 ⟨rfl, hw⟩
  have hw' : ∃ n, w1 = w.drewN n := by
    rcases hw with rfl | rfl
    · exact ⟨0, rfl⟩
    · exact ⟨1, rfl⟩
  obtain ⟨n, rfl⟩ := hw'
  clear hw
  go_wp2
  go_ret
  exact ⟨rfl, n, rfl⟩

theorem trimB_len (l : List UInt8) (c : UInt8) : (Lib.trimB l c).length ≤ l.length := by
  unfold Lib.trimB Lib.trimLeftB Lib.trimRightB
  have h1 := (List.dropWhile_sublist (· == c) (l := (l.reverse.dropWhile (· == c)).reverse)).length_le
  have h2 := (List.dropWhile_sublist (· == c) (l := l.reverse)).length_le
  simp at h1 h2 ⊢
  omega

set_option maxHeartbeats 400000 in
theorem impl_trim (s : ByteArray) (w : World) (hs : s.size ≤ 281474976710656) :
    Calls Tryz.prog 184 #[.string s] w fun e w' => e = .returned (strV (Lib.trimB s.data.toList 32)) ∧ Below w.heap.size w w' := by
  have hl := trimB_len s.data.toList 32
  have hl2 : (ByteArray.mk (Lib.trimB s.data.toList 32).toArray).size ≤ 281474976710656 := by rw [size_len] at hs ⊢; simp only; omega
  clear hl
  generalize hq : Lib.trimB s.data.toList 32 = q at *
  have HQ := Lib.hid hq; clear hq
  go_enter Tryz.func184, Tryz.ntmps184
  go_wp2_with fail
  refine (text_trim _ _ (by unfold maxLen; omega)).mono ?_
  rintro e w1 ⟨rfl, n, rfl⟩
  rw [HQ.out]
  go_wp2_with fail
  refine (fresh_t _ _ hl2).mono ?_
  rintro e w2 ⟨rfl, hb⟩
  go_wp2
  go_ret
  exact ⟨rfl, below_drewN_left hb⟩

namespace Lw
end Lw
end Go.Proofs.YtbhnjnoblkfckabGreatDoor

-- from XLaid
/- What the rows' lists of package-level variables give; a world that has them. -/
namespace Go.Proofs.YtbhnjnoblkfckabGreatDoor
open Go.RowKit

theorem gCls : Tryz.prog.globalNamed "loop.example/godown/impl.byteClasses" = some 1 := by kernel_rfl
theorem gClsT : (Tryz.prog.globals[1]?).map (·.type) = some 188 := by kernel_rfl
theorem cellsCls : Tryz.prog.cellsOf 188 = 123 := by kernel_rfl
theorem cellsCls1 : Tryz.prog.cellsOf 126 = 1 := by kernel_rfl

theorem cls_of_tab {W : World} (h : Lib.TabIs Tryz.prog W "loop.example/godown/impl.byteClasses" .u8 clsTab) : Cls W := by
  have hc : ∀ i, i < 123 → W.cell? ⟨1, i, none⟩ = some (.int .u8 (clsOf i)) := fun i hi => h.cell gCls i (by simp [clsTab]; exact hi)
  exact ⟨World.block_lt_of_cell? W _ (hc 0 (by omega)), hc⟩

theorem cls_of_head {W : World} {rest : List (String × DataW Unit)} (h : laidMet Tryz.prog (("loop.example/godown/impl.byteClasses", Rows.laid_loop_example_godown_impl_byteClasses) :: rest) W) : Cls W :=
  cls_of_tab (Lib.tabIs_of_head (rest := rest) gCls gClsT Tryz.underlying188 Tryz.underlying126 cellsCls1 cellsCls (by
    rw [show Lib.tabData .u8 clsTab = Rows.laid_loop_example_godown_impl_byteClasses from by kernel_rfl]; exact h))

def litV : DataW Unit → Value
  | .lit (.int k n) => .int k n
  | .lit (.bool b) => .bool b
  | .lit (.string s) => .string ⟨s.toArray⟩
  | _ => undef
def rowV : DataW Unit → List Value
  | .agg ps => ps.map litV
  | d => [litV d]
def cellsV : DataW Unit → Array Value
  | .agg ps => (ps.flatMap rowV).toArray
  | d => #[litV d]
def layC (cs : Array Value) : Obj → Obj
  | .cells _ t frozen => .cells cs t frozen
  | o => o

/-- The new blocks of the sentinels. -/
def sentinels : Array Obj := #[
  .cells #[.string ⟨#[105, 110, 118, 97, 108, 105, 100, 32, 115, 121, 110, 116, 97, 120]⟩] 235, .cells #[.string ⟨#[118, 97, 108, 117, 101, 32, 111, 117, 116, 32, 111, 102, 32, 114, 97, 110, 103, 101]⟩] 235
  ]

/-- The settled world, the tables laid. -/
noncomputable def laidWorld (os : Os) : World :=
  let w0 := World.holding Tryz.prog os ⟨sentinels, #[], []⟩
  let h := w0.heap
  let h := h.modify 1 (layC (cellsV Rows.laid_loop_example_godown_impl_byteClasses))
  let h := h.modify 0 (layC (cellsV Rows.laid_loop_example_godown_impl_codingNames))
  let h := h.modify 2 (layC (cellsV Rows.laid_internal_strconv_uint64pow10))
  let h := h.modify 8 (layC (cellsV Rows.laid_unicode_utf8_first))
  let h := h.modify 9 (layC (cellsV Rows.laid_unicode_utf8_acceptRanges))
  let h := h.modify 6 (layC (cellsV Rows.laid_math_bits_deBruijn32tab))
  let h := h.modify 7 (layC (cellsV Rows.laid_math_bits_deBruijn64tab))
  let h := h.modify 3 (layC #[.iface 233 (.pointer (some ⟨(World.settled Tryz.prog os).heap.size, 0, none⟩))])
  let h := h.modify 4 (layC #[.iface 233 (.pointer (some ⟨(World.settled Tryz.prog os).heap.size + 1, 0, none⟩))])
  { w0 with heap := h }
end Go.Proofs.YtbhnjnoblkfckabGreatDoor

-- from XFv
/- Fields: which are valid. -/
namespace Go.Proofs.YtbhnjnoblkfckabGreatDoor
open Go.RowKit

def printC (c : UInt8) : Bool := decide (32 ≤ c.toNat) && decide (c.toNat ≤ 126)
def printB (l : List UInt8) : Bool := l.all printC
def valB (l : List UInt8) : Bool := decide (l.length ≤ 30) && printB l && decide (Lib.trimB l 32 = l)
def fdB (f : ByteArray × ByteArray) : Bool := tokB f.1.data.toList && valB f.2.data.toList

theorem str_inj2 {a b : ByteArray} (h : a.data.toList = b.data.toList) : a = b := by
  cases a; cases b; simpa [Array.toList_inj] using h
theorem mk_same {l : List UInt8} {s : ByteArray} (h : l = s.data.toList) : (⟨l.toArray⟩ : ByteArray) = s := by rw [h, mk_toList]
theorem mk_ne {l : List UInt8} {s : ByteArray} (h : l ≠ s.data.toList) : ((⟨l.toArray⟩ : ByteArray).toList == s.toList) = false := by
  rw [Lib.toList_data, Lib.toList_data]
  simpa using h

set_option maxHeartbeats 400000 in
theorem printable (s : ByteArray) (w : World) (hs : s.size ≤ maxLen) :
    Calls Tryz.prog 128 #[.string s] w fun e w' => e = .returned (.bool (printB s.data.toList)) ∧ w = w' := by
  unfold maxLen at hs
  go_enter Tryz.func128, Tryz.ntmps128
  go_wp2_with fail
  go_loop [6] (fun i => ∃ k : Nat, k ≤ s.size ∧ i = .int .i64 k ∧ (s.data.toList.take k).all printC = true) (fun i => s.size - (intOf i).toNat)
  case atStart => exact ⟨0, Nat.zero_le _, rfl, by simp⟩
  case round =>
    obtain ⟨k, hk, rfl, hall⟩ := hrel
    by_cases hlt : k < s.size
    · by_cases hp : printC s[k] = true
      · have hstep := all_take_succ hlt hall hp
        simp only [printC, Bool.and_eq_true, decide_eq_true_eq] at hp
        obtain ⟨p1, p2⟩ := hp
        have HS := Lib.hid hstep
        clear hstep hall
        go_wp2
        go_round
        case rel => exact ⟨k + 1, by omega, by go_num, HS.out⟩
        case measure => simp [intOf]; omega
      · have hf : printB s.data.toList = false := all_false_at hlt (by simpa using hp)
        have HF := Lib.hid hf
        have hp' : s[k].toNat < 32 ∨ 126 < s[k].toNat := by
          simp only [printC, Bool.and_eq_true, decide_eq_true_eq] at hp; omega
        clear hf hp hall
        rcases hp' with hp' | hp'
        · go_wp2
          go_ret
          rw [HF.out]; exact ⟨rfl, rfl⟩
        · have hp2 : 32 ≤ s[k].toNat := by omega
          go_wp2
          go_ret
          rw [HF.out]; exact ⟨rfl, rfl⟩
    · go_wp2
      go_ret
      have hf : printB s.data.toList = true := all_of_take (by omega) hall
      rw [hf]; exact ⟨rfl, rfl⟩

theorem valB_len {l : List UInt8} (h : ¬ l.length ≤ 30) : valB l = false := by simp [valB, h]
theorem valB_print {l : List UInt8} (h : printB l = false) : valB l = false := by simp [valB, h]
theorem valB_trim {l : List UInt8} (h : ¬ Lib.trimB l 32 = l) : valB l = false := by simp [valB, h]
theorem valB_yes {l : List UInt8} (h1 : l.length ≤ 30) (h2 : printB l = true) (h3 : Lib.trimB l 32 = l) : valB l = true := by simp [valB, h1, h2, h3]

set_option maxHeartbeats 800000 in
theorem spec_value (s : ByteArray) (w : World) (hs : s.size ≤ maxLen) :
    Calls Tryz.prog 132 #[.string s] w fun e w' => e = .returned (.bool (valB s.data.toList)) ∧ w = w' := by
  have hs' := hs
  unfold maxLen at hs'
  by_cases h1 : s.size ≤ 30
  · have h30 : s.data.toList.length ≤ 30 := by rw [← size_len]; exact h1
    have ht := fun W => spec_trim s W hs
    by_cases h2 : Lib.trimB s.data.toList 32 = s.data.toList
    · have hbase : ∀ b, printB s.data.toList = b → valB s.data.toList = b := fun b hb => by
        cases b
        · exact valB_print hb
        · exact valB_yes h30 hb h2
      have HB := Lib.hid hbase; clear hbase
      rw [h2] at ht
      unfold strV at ht
      rw [mk_toList] at ht
      clear h2 h30
      go_enter Tryz.func132, Tryz.ntmps132
      go_wp2_with fail
      refine (ht _).mono ?_
      rintro e w' ⟨rfl, rfl⟩
      go_wp2_with fail
      go_loop [3] (fun i => ∃ k : Nat, k ≤ s.size ∧ i = .int .i64 k ∧ (s.data.toList.take k).all printC = true) (fun i => s.size - (intOf i).toNat)
      case atStart => exact ⟨0, Nat.zero_le _, rfl, by simp⟩
      case round =>
        obtain ⟨k, hk, rfl, hall⟩ := hrel
        by_cases hlt : k < s.size
        · by_cases hp : printC s[k] = true
          · have hstep := all_take_succ hlt hall hp
            simp only [printC, Bool.and_eq_true, decide_eq_true_eq] at hp
            obtain ⟨p1, p2⟩ := hp
            have HS := Lib.hid hstep
            clear hstep hall
            go_wp2
            go_round
            case rel => exact ⟨k + 1, by omega, by go_num, HS.out⟩
            case measure => simp [intOf]; omega
          · have hf : printB s.data.toList = false := all_false_at hlt (by simpa using hp)
            have HF := Lib.hid (HB.out _ hf)
            have hp' : s[k].toNat < 32 ∨ 126 < s[k].toNat := by
              simp only [printC, Bool.and_eq_true, decide_eq_true_eq] at hp; omega
            clear hf hp hall
            rcases hp' with hp' | hp'
            · go_wp2
              go_ret
              rw [HF.out]; exact ⟨rfl, rfl⟩
            · have hp2 : 32 ≤ s[k].toNat := by omega
              go_wp2
              go_ret
              rw [HF.out]; exact ⟨rfl, rfl⟩
        · go_wp2
          go_ret
          have hf : printB s.data.toList = true := all_of_take (by omega) hall
          rw [HB.out _ hf]; exact ⟨rfl, rfl⟩
    · have HF := Lib.hid (valB_trim h2)
      have hne := mk_ne h2
      unfold strV at ht
      clear h2
      generalize (ByteArray.mk (Lib.trimB s.data.toList 32).toArray) = t at *
      go_enter Tryz.func132, Tryz.ntmps132
      go_wp2_with fail
      refine (ht _).mono ?_
      rintro e w' ⟨rfl, rfl⟩
      go_wp2
      go_ret
      rw [HF.out]; exact ⟨rfl, rfl⟩
  · have HF := Lib.hid (valB_len (l := s.data.toList) (by rw [← size_len]; exact h1))
    go_enter Tryz.func132, Tryz.ntmps132
    go_wp2
    go_ret
    rw [HF.out]; exact ⟨rfl, rfl⟩
end Go.Proofs.YtbhnjnoblkfckabGreatDoor

-- from XFok
/- Fields: the program and the specification on which are valid; their texts. -/
namespace Go.Proofs.YtbhnjnoblkfckabGreatDoor
open Go.RowKit

theorem Cls.alloc {w : World} (h : Cls w) (o : Obj) : Cls (w.alloc o) := h.below ((Below.refl _ _).alloc (Nat.le_refl _) o) (Nat.le_refl _)

set_option maxHeartbeats 1600000 in
theorem impl_ok (a b : ByteArray) (w : World) (ha : a.size ≤ maxLen) (hb : b.size ≤ maxLen) (h : Cls w) :
    Calls Tryz.prog 126 #[.agg #[.string a, .string b]] w fun e w' => e = .returned (.bool (fdB (a, b))) ∧ Below w.heap.size w w' := by
  have hT := fun W hW => impl_tok a W ha hW
  have hP := fun W => printable b W hb
  have hR := fun W => text_trim b W hb
  have hC := fun o => h.alloc o
  have hb' := hb
  unfold maxLen at hb'
  have HA : ∀ o, Below w.heap.size w (w.alloc o) := fun o => (Below.refl _ _).alloc (Nat.le_refl _) o
  cases ht : tokB a.data.toList
  · rw [ht] at hT
    have HF : Hid (fdB (a, b) = false) := Lib.hid (by simp [fdB, ht])
    clear hP hR ht h
    go_enter Tryz.func126, Tryz.ntmps126
    go_wp2_with fail
    refine (hT _ (hC _)).mono ?_
    rintro e w' ⟨rfl, rfl⟩
    go_wp2
    go_ret
    rw [HF.out]; exact ⟨rfl, HA _⟩
  · rw [ht] at hT
    have hv : fdB (a, b) = valB b.data.toList := by simp [fdB, ht]
    by_cases h1 : b.size ≤ 30
    · have h30 : b.data.toList.length ≤ 30 := by rw [← size_len]; exact h1
      cases h2 : printB b.data.toList
      · have HF := Lib.hid (hv.trans (valB_print h2))
        rw [h2] at hP
        clear hR ht h hv h2
        go_enter Tryz.func126, Tryz.ntmps126
        go_wp2_with fail
        refine (hT _ (hC _)).mono ?_
        rintro e w' ⟨rfl, rfl⟩
        go_wp2_with fail
        refine (hP _).mono ?_
        rintro e w' ⟨rfl, rfl⟩
        go_wp2
        go_ret
        rw [HF.out]; exact ⟨rfl, HA _⟩
      · rw [h2] at hP
        by_cases h3 : Lib.trimB b.data.toList 32 = b.data.toList
        · have HF := Lib.hid (hv.trans (valB_yes h30 h2 h3))
          rw [h3] at hR
          unfold strV at hR
          rw [mk_toList] at hR
          clear ht h hv h2 h3 h30
          go_enter Tryz.func126, Tryz.ntmps126
          go_wp2_with fail
          refine (hT _ (hC _)).mono ?_
          rintro e w' ⟨rfl, rfl⟩
          go_wp2_with fail
          refine (hP _).mono ?_
          rintro e w' ⟨rfl, rfl⟩
          go_wp2_with fail
          refine (hR _).mono ?_
          rintro e w' ⟨rfl, n, rfl⟩
          go_wp2
          go_ret
          rw [HF.out]; exact ⟨rfl, below_drewN (HA _)⟩
        · have HF := Lib.hid (hv.trans (valB_trim h3))
          have hne := mk_ne h3
          unfold strV at hR
          generalize (ByteArray.mk (Lib.trimB b.data.toList 32).toArray) = t at *
          clear ht h hv h2 h3 h30
          go_enter Tryz.func126, Tryz.ntmps126
          go_wp2_with fail
          refine (hT _ (hC _)).mono ?_
          rintro e w' ⟨rfl, rfl⟩
          go_wp2_with fail
          refine (hP _).mono ?_
          rintro e w' ⟨rfl, rfl⟩
          go_wp2_with fail
          refine (hR _).mono ?_
          rintro e w' ⟨rfl, n, rfl⟩
          go_wp2
          go_ret
          rw [HF.out]; exact ⟨rfl, below_drewN (HA _)⟩
    · have HF := Lib.hid (hv.trans (valB_len (l := b.data.toList) (by rw [← size_len]; exact h1)))
      clear hP hR ht h hv
      go_enter Tryz.func126, Tryz.ntmps126
      go_wp2_with fail
      refine (hT _ (hC _)).mono ?_
      rintro e w' ⟨rfl, rfl⟩
      go_wp2
      go_ret
      rw [HF.out]; exact ⟨rfl, HA _⟩

set_option maxHeartbeats 800000 in
theorem spec_ok (a b : ByteArray) (w : World) (ha : a.size ≤ maxLen) (hb : b.size ≤ maxLen) :
    Calls Tryz.prog 89 #[.agg #[.string a, .string b]] w fun e w' => e = .returned (.bool (fdB (a, b))) ∧ Below w.heap.size w w' := by
  have hT := fun W => spec_tok a W ha
  have hV := fun W => spec_value b W hb
  have HA : ∀ o, Below w.heap.size w (w.alloc o) := fun o => (Below.refl _ _).alloc (Nat.le_refl _) o
  cases ht : tokB a.data.toList
  · rw [ht] at hT
    have HF : Hid (fdB (a, b) = false) := Lib.hid (by simp [fdB, ht])
    clear hV ht
    go_enter Tryz.func89, Tryz.ntmps89
    go_wp2_with fail
    refine (hT _).mono ?_
    rintro e w' ⟨rfl, rfl⟩
    go_wp2
    go_ret
    rw [HF.out]; exact ⟨rfl, HA _⟩
  · rw [ht] at hT
    have HF : Hid (fdB (a, b) = valB b.data.toList) := Lib.hid (by simp [fdB, ht])
    clear ht
    generalize valB b.data.toList = q at *
    go_enter Tryz.func89, Tryz.ntmps89
    go_wp2_with fail
    refine (hT _).mono ?_
    rintro e w' ⟨rfl, rfl⟩
    go_wp2_with fail
    refine (hV _).mono ?_
    rintro e w' ⟨rfl, rfl⟩
    go_wp2
    go_ret
    rw [HF.out]; exact ⟨rfl, HA _⟩

/-- The text of a field. -/
def fdT (f : ByteArray × ByteArray) : ByteArray := if fdB f = true then f.1 ++ ⟨#[58, 32]⟩ ++ f.2 else ⟨#[]⟩

theorem fdB_len {a b : ByteArray} (h : fdB (a, b) = true) : a.size ≤ 12 ∧ b.size ≤ 30 := by
  simp only [fdB, tokB, valB, Bool.and_eq_true, decide_eq_true_eq] at h
  rw [size_len, size_len]
  omega

set_option maxHeartbeats 800000 in
theorem impl_text (a b : ByteArray) (w : World) (ha : a.size ≤ maxLen) (hb : b.size ≤ maxLen) (h : Cls w) :
    Calls Tryz.prog 129 #[.agg #[.string a, .string b]] w fun e w' => e = .returned (.string (fdT (a, b))) ∧ Below w.heap.size w w' := by
  have hO := fun W hW => impl_ok a b W ha hb hW
  have hC := fun o => h.alloc o
  have HA : ∀ o, Below w.heap.size w (w.alloc o) := fun o => (Below.refl _ _).alloc (Nat.le_refl _) o
  cases hf : fdB (a, b)
  · have HF : Hid (fdT (a, b) = ⟨#[]⟩) := Lib.hid (by simp [fdT, hf])
    rw [hf] at hO
    clear h hf
    go_enter Tryz.func129, Tryz.ntmps129
    go_wp2_with fail
    refine (hO _ (hC _)).mono ?_
    rintro e w' ⟨rfl, hb1⟩
    have hbel := (HA (.cells #[.string a, .string b] 88)).trans (hb1.mono (by simp))
    go_wp2
    go_ret
    rw [HF.out]; exact ⟨rfl, hbel⟩
  · have HF : Hid (fdT (a, b) = a ++ ⟨#[58, 32]⟩ ++ b) := Lib.hid (by simp [fdT, hf])
    obtain ⟨l1, l2⟩ := fdB_len hf
    rw [hf] at hO
    clear h hf
    go_enter Tryz.func129, Tryz.ntmps129
    go_wp2_with fail
    refine (hO _ (hC _)).mono ?_
    rintro e w' ⟨rfl, hb1⟩
    have hbel := (HA (.cells #[.string a, .string b] 88)).trans (hb1.mono (by simp))
    have q0 := hb1.cell (p := ⟨w.heap.size, 0, none⟩) (by simp)
    have q1 := hb1.cell (p := ⟨w.heap.size, 1, none⟩) (by simp)
    rw [World.cell?_alloc_at _ _ _ _ rfl] at q0 q1
    go_wp2
    go_ret
    rw [HF.out]; exact ⟨rfl, hbel⟩

set_option maxHeartbeats 800000 in
theorem spec_text (a b : ByteArray) (w : World) (ha : a.size ≤ maxLen) (hb : b.size ≤ maxLen) :
    Calls Tryz.prog 133 #[.agg #[.string a, .string b]] w fun e w' => e = .returned (.string (fdT (a, b))) ∧ Below w.heap.size w w' := by
  have hO := fun W => spec_ok a b W ha hb
  have HA : ∀ o, Below w.heap.size w (w.alloc o) := fun o => (Below.refl _ _).alloc (Nat.le_refl _) o
  cases hf : fdB (a, b)
  · have HF : Hid (fdT (a, b) = ⟨#[]⟩) := Lib.hid (by simp [fdT, hf])
    rw [hf] at hO
    clear hf
    go_enter Tryz.func133, Tryz.ntmps133
    go_wp2_with fail
    refine (hO _).mono ?_
    rintro e w' ⟨rfl, hb1⟩
    have hbel := (HA (.cells #[.string a, .string b] 88)).trans (hb1.mono (by simp))
    go_wp2
    go_ret
    rw [HF.out]; exact ⟨rfl, hbel⟩
  · have HF : Hid (fdT (a, b) = a ++ ⟨#[58, 32]⟩ ++ b) := Lib.hid (by simp [fdT, hf])
    obtain ⟨l1, l2⟩ := fdB_len hf
    rw [hf] at hO
    clear hf
    go_enter Tryz.func133, Tryz.ntmps133
    go_wp2_with fail
    refine (hO _).mono ?_
    rintro e w' ⟨rfl, hb1⟩
    have hbel := (HA (.cells #[.string a, .string b] 88)).trans (hb1.mono (by simp))
    have q0 := hb1.cell (p := ⟨w.heap.size, 0, none⟩) (by simp)
    have q1 := hb1.cell (p := ⟨w.heap.size, 1, none⟩) (by simp)
    rw [World.cell?_alloc_at _ _ _ _ rfl] at q0 q1
    go_wp2
    go_ret
    rw [HF.out]; exact ⟨rfl, hbel⟩
end Go.Proofs.YtbhnjnoblkfckabGreatDoor

-- from XCutI
/- Walks: the program's cut of a text. -/
namespace Go.Proofs.YtbhnjnoblkfckabGreatDoor
open Go.RowKit

set_option maxHeartbeats 400000 in
theorem impl_cut (s : ByteArray) (c : UInt8) (w : World) (hs : s.size ≤ 281474976710656) :
    Calls Tryz.prog 59 #[.string s, .int .u8 c.toNat] w fun e w' => e = .returned (.tuple #[.string ⟨(cutL s.data.toList c).1.toArray⟩, .string ⟨(cutL s.data.toList c).2.1.toArray⟩, .bool (cutL s.data.toList c).2.2]) ∧ Below w.heap.size w w' := by
  have hl1 : (ByteArray.mk (cutL s.data.toList c).1.toArray).size ≤ 281474976710656 := by
    have := cutL_len s.data.toList c; rw [size_len]; rw [size_len] at hs; simp only; omega
  have hl2 : (ByteArray.mk (cutL s.data.toList c).2.1.toArray).size ≤ 281474976710656 := by
    have := cutL_len s.data.toList c; rw [size_len]; rw [size_len] at hs; simp only; omega
  generalize hr : cutL s.data.toList c = r at *
  obtain ⟨r1, r2, r3⟩ := r
  simp only at hl1 hl2
  have HR := Lib.hid hr; clear hr
  go_enter Tryz.func59, Tryz.ntmps59
  go_wp2_with fail
  refine (textcut _ _ _ (by unfold maxLen; omega)).mono ?_
  rintro e w1 ⟨rfl, n1, rfl⟩
  rw [HR.out]
  go_wp2_with fail
  refine (fresh _ _ hl1).mono ?_
  rintro e w2 ⟨rfl, hb1⟩
  go_wp2_with fail
  refine (fresh _ _ hl2).mono ?_
  rintro e w3 ⟨rfl, hb2⟩
  go_wp2
  go_ret3
  exact ⟨rfl, below_drewN_left (hb1.trans (hb2.mono hb1.size))⟩
end Go.Proofs.YtbhnjnoblkfckabGreatDoor

-- from XFrd
/- Fields: read from a line. -/
namespace Go.Proofs.YtbhnjnoblkfckabGreatDoor
open Go.RowKit

/-- What a line says, be it valid or not. -/
def rdF (l : List UInt8) : ByteArray × ByteArray := (⟨(lowL (cutL l 58).1).toArray⟩, ⟨(Lib.trimB (cutL l 58).2.1 32).toArray⟩)
def rdB (l : List UInt8) : Bool := (cutL l 58).2.2 && fdB (rdF l)
def rdR (l : List UInt8) : (ByteArray × ByteArray) × Bool := if rdB l = true then (rdF l, true) else ((⟨#[]⟩, ⟨#[]⟩), false)
def fdV (r : (ByteArray × ByteArray) × Bool) : Value := .tuple #[.agg #[.string r.1.1, .string r.1.2], .bool r.2]

theorem rd_no {l : List UInt8} (h : (cutL l 58).2.2 = false) : rdR l = ((⟨#[]⟩, ⟨#[]⟩), false) := by simp [rdR, rdB, h]
theorem rd_bad {l : List UInt8} (h : fdB (rdF l) = false) : rdR l = ((⟨#[]⟩, ⟨#[]⟩), false) := by simp [rdR, rdB, h]
theorem rd_yes {l : List UInt8} (h1 : (cutL l 58).2.2 = true) (h2 : fdB (rdF l) = true) : rdR l = (rdF l, true) := by simp [rdR, rdB, h1, h2]

theorem low_len (l : List UInt8) : (lowL l).length = l.length := by simp [lowL]

/-- The block of a result, as it lies behind calls that leave it alone. -/
theorem res_block {w w' : World} {x y : Value} {T : TypeId} (h : Below (w.heap.size + 1) (w.alloc (.cells #[x, y] T)) w') : w'.heap[w.heap.size]? = some (.cells #[x, y] T (0, 0)) :=
  (h.block w.heap.size (Nat.lt_succ_self _)).trans (heap_alloc_new w _)
theorem res_facts {w' : World} {g : Nat} {x y : Value} {T : TypeId} (h : w'.heap[g]? = some (.cells #[x, y] T (0, 0))) : w'.cell? ⟨g, 0, none⟩ = some x ∧ w'.cell? ⟨g, 1, none⟩ = some y ∧ w'.frozen? ⟨g, 0, none⟩ = false ∧ w'.frozen? ⟨g, 1, none⟩ = false := by
  refine ⟨?_, ?_, ?_, ?_⟩ <;> simp [World.cell?, World.frozen?, h]
theorem res_set {w' : World} {g : Nat} {x y : Value} {T : TypeId} (h : w'.heap[g]? = some (.cells #[x, y] T (0, 0))) (a b : Value) : ((w'.setCell ⟨g, 0, none⟩ a).setCell ⟨g, 1, none⟩ b).cell? ⟨g, 0, none⟩ = some a ∧ ((w'.setCell ⟨g, 0, none⟩ a).setCell ⟨g, 1, none⟩ b).cell? ⟨g, 1, none⟩ = some b := by
  have h1 := heap_setCell_same w' g 0 _ _ a h
  have h2 := heap_setCell_same _ g 1 _ _ b h1
  constructor <;> simp [World.cell?, h2]
theorem below_set2 {w w3 : World} {b : Nat} {x y : Value} (h : Below b w w3) : Below b w ((w3.setCell ⟨b, 0, none⟩ x).setCell ⟨b, 1, none⟩ y) :=
  ⟨h.os, h.tape, h.output, by simpa using h.size, fun j hj => (heap_setCell_other _ ⟨b, 1, none⟩ j _ (by simp; omega)).trans ((heap_setCell_other w3 ⟨b, 0, none⟩ j _ (by simp; omega)).trans (h.block j hj))⟩

end Go.Proofs.YtbhnjnoblkfckabGreatDoor

-- from XUri
/- Places: plain functions on lists of bytes, and walks of the small helpers: digits of codes, codes, paths, what lies under. -/
namespace Go.Proofs.YtbhnjnoblkfckabGreatDoor
open Go.RowKit

/-- What a digit of a code says. -/
def hexV (c : UInt8) : Option Nat :=
  if 48 ≤ c.toNat ∧ c.toNat ≤ 57 then some (c.toNat - 48) else if 97 ≤ c.toNat ∧ c.toNat ≤ 102 then some (c.toNat - 87) else if 65 ≤ c.toNat ∧ c.toNat ≤ 70 then some (c.toNat - 55) else none

theorem hexV_lt {c : UInt8} {x : Nat} (h : hexV c = some x) : x < 16 := by
  unfold hexV at h
  split at h
  · simp at h; omega
  · split at h
    · simp at h; omega
    · split at h
      · simp at h; omega
      · cases h

theorem hexV_cases (c : UInt8) : (48 ≤ c.toNat ∧ c.toNat ≤ 57 ∧ hexV c = some (c.toNat - 48)) ∨ (97 ≤ c.toNat ∧ c.toNat ≤ 102 ∧ hexV c = some (c.toNat - 87)) ∨ (65 ≤ c.toNat ∧ c.toNat ≤ 70 ∧ hexV c = some (c.toNat - 55)) ∨
    ((c.toNat < 48 ∨ (58 ≤ c.toNat ∧ c.toNat ≤ 64) ∨ (71 ≤ c.toNat ∧ c.toNat ≤ 96) ∨ 103 ≤ c.toNat) ∧ hexV c = none) := by
  unfold hexV
  by_cases h1 : 48 ≤ c.toNat ∧ c.toNat ≤ 57
  · exact .inl ⟨h1.1, h1.2, if_pos h1⟩
  · by_cases h2 : 97 ≤ c.toNat ∧ c.toNat ≤ 102
    · exact .inr (.inl ⟨h2.1, h2.2, by rw [if_neg h1, if_pos h2]⟩)
    · by_cases h3 : 65 ≤ c.toNat ∧ c.toNat ≤ 70
      · exact .inr (.inr (.inl ⟨h3.1, h3.2, by rw [if_neg h1, if_neg h2, if_pos h3]⟩))
      · exact .inr (.inr (.inr ⟨by omega, by rw [if_neg h1, if_neg h2, if_neg h3]⟩))

theorem hexV_37 : hexV 37 = none := by decide

theorem wrap_u8 (r : Nat) (h : r < 256) : IntKind.u8.wrap (r : Int) = (r : Int) := by simp [IntKind.wrap, IntKind.bits, IntKind.signed]; omega

def hexI (c : UInt8) : Int := match hexV c with | some x => (x : Int) | none => -1

set_option maxHeartbeats 400000 in
theorem l2_hex (c : UInt8) (w : World) :
    Calls Tryz.prog 204 #[.int .u8 c.toNat] w fun e w' => e = .returned (.int .i64 (hexI c)) ∧ w = w' := by
  have hc := c.toNat_lt
  unfold hexI
  rcases hexV_cases c with ⟨h1, h2, e⟩ | ⟨h1, h2, e⟩ | ⟨h1, h2, e⟩ | ⟨hr, e⟩
  · rw [e]; clear e
    generalize c.toNat = n at *
    go_enter Tryz.func204, Tryz.ntmps204
    go_wp2
    go_ret
    exact ⟨by go_num, rfl⟩
  · rw [e]; clear e
    generalize c.toNat = n at *
    go_enter Tryz.func204, Tryz.ntmps204
    go_wp2
    go_ret
    exact ⟨by go_num, rfl⟩
  · rw [e]; clear e
    generalize c.toNat = n at *
    go_enter Tryz.func204, Tryz.ntmps204
    go_wp2
    go_ret
    exact ⟨by go_num, rfl⟩
  · rw [e]; clear e
    generalize c.toNat = n at *
    rcases hr with hr | ⟨h1, h2⟩ | ⟨h1, h2⟩ | hr
    all_goals go_enter Tryz.func204, Tryz.ntmps204
    all_goals go_wp2
    all_goals go_ret
    all_goals exact ⟨rfl, rfl⟩

set_option maxHeartbeats 400000 in
theorem hex_value_some (c : UInt8) (x : Nat) (hx : hexV c = some x) (w : World) :
    Calls Tryz.prog 233 #[.int .u8 c.toNat] w fun e w' => e = .returned (.tuple #[.int .u8 (x : Int), .bool true]) ∧ w = w' := by
  have hc := c.toNat_lt
  rcases hexV_cases c with ⟨h1, h2, e⟩ | ⟨h1, h2, e⟩ | ⟨h1, h2, e⟩ | ⟨hr, e⟩
  · rw [e] at hx; obtain rfl := Option.some.inj hx; clear e hx
    generalize c.toNat = n at *
    go_enter Tryz.func233, Tryz.ntmps233
    go_wp2
    go_ret2
    exact ⟨by go_num, rfl⟩
  · rw [e] at hx; obtain rfl := Option.some.inj hx; clear e hx
    generalize c.toNat = n at *
    go_enter Tryz.func233, Tryz.ntmps233
    go_wp2
    go_ret2
    exact ⟨by go_num, rfl⟩
  · rw [e] at hx; obtain rfl := Option.some.inj hx; clear e hx
    generalize c.toNat = n at *
    go_enter Tryz.func233, Tryz.ntmps233
    go_wp2
    go_ret2
    exact ⟨by go_num, rfl⟩
  · rw [e] at hx; cases hx

set_option maxHeartbeats 400000 in
theorem hex_value_none (c : UInt8) (hx : hexV c = none) (w : World) :
    Calls Tryz.prog 233 #[.int .u8 c.toNat] w fun e w' => e = .returned (.tuple #[.int .u8 0, .bool false]) ∧ w = w' := by
  have hc := c.toNat_lt
  rcases hexV_cases c with ⟨h1, h2, e⟩ | ⟨h1, h2, e⟩ | ⟨h1, h2, e⟩ | ⟨hr, e⟩
  · rw [e] at hx; cases hx
  · rw [e] at hx; cases hx
  · rw [e] at hx; cases hx
  · clear e hx
    generalize c.toNat = n at *
    rcases hr with hr | ⟨h1, h2⟩ | ⟨h1, h2⟩ | hr
    all_goals go_enter Tryz.func233, Tryz.ntmps233
    all_goals go_wp2
    all_goals go_ret2
    all_goals exact ⟨rfl, rfl⟩

/-- The byte that the first three bytes are a code of. -/
def codeL : List UInt8 → Option Nat
  | c :: a :: b :: _ => if c = 37 then (match hexV a, hexV b with | some x, some y => some (x * 16 + y) | _, _ => none) else none
  | _ => none
def codeI (l : List UInt8) : Int := match codeL l with | some x => (x : Int) | none => -1

theorem drop_at (s : ByteArray) (k : Nat) (h : k < s.size) : s.data.toList.drop k = s[k] :: s.data.toList.drop (k + 1) := by
  have hk : k < s.data.toList.length := by rw [← size_len]; exact h
  rw [List.drop_eq_getElem_cons hk]; rfl
theorem drop_end (s : ByteArray) (k : Nat) (h : s.size ≤ k) : s.data.toList.drop k = [] := List.drop_of_length_le (by rw [← size_len]; exact h)

theorem codeL_short {l : List UInt8} (h : l.length < 3) : codeL l = none := by
  match l, h with
  | [], _ => rfl
  | [_], _ => rfl
  | [_, _], _ => rfl
  | _ :: _ :: _ :: _, h => simp at h; omega

theorem codeL_cons (a b : UInt8) (l : List UInt8) : codeI (37 :: a :: b :: l) = if hexI a < 0 then -1 else if hexI b < 0 then -1 else hexI a * 16 + hexI b := by
  unfold codeI codeL hexI
  simp only [if_true]
  cases h1 : hexV a with
  | none => simp
  | some x =>
    cases h2 : hexV b with
    | none => simp
    | some y => simp only; rw [if_neg (by omega), if_neg (by omega)]; omega
theorem codeL_ne {c : UInt8} {l : List UInt8} (h : c ≠ 37) : codeL (c :: l) = none := by
  match l with
  | [] => rfl
  | [_] => rfl
  | _ :: _ :: _ => simp [codeL, h]
theorem hexI_in (c : UInt8) : -1 ≤ hexI c ∧ hexI c < 16 := by
  unfold hexI; cases h1 : hexV c with
  | none => simp
  | some x => have := hexV_lt h1; simp only; omega
theorem codeI_ne {c : UInt8} {l : List UInt8} (h : c ≠ 37) : codeI (c :: l) = -1 := by unfold codeI; rw [codeL_ne h]

set_option maxHeartbeats 400000 in
theorem l2_code (s : ByteArray) (k : Nat) (hk : k < s.size) (w : World) (hs : s.size ≤ maxLen) :
    Calls Tryz.prog 178 #[.string s, .int .i64 k] w fun e w' => e = .returned (.int .i64 (codeI (s.data.toList.drop k))) ∧ w = w' := by
  unfold maxLen at hs
  by_cases h3 : k + 3 ≤ s.size
  · rw [drop_at s k hk, drop_at s (k + 1) (by omega), drop_at s (k + 1 + 1) (by omega)]
    by_cases hc : s[k] = 37
    · rw [hc, codeL_cons]
      have b1 := hexI_in s[k + 1]
      have b2 := hexI_in s[k + 1 + 1]
      have c1 := fun W => l2_hex s[k + 1] W
      have c2 := fun W => l2_hex s[k + 1 + 1] W
      have hc' : ((s[k].toNat : Int) != 37) = false := by rw [hc]; rfl
      clear hc
      generalize hexI s[k + 1] = x at *
      generalize hexI s[k + 1 + 1] = y at *
      obtain ⟨R, hR⟩ : ∃ R : Int, R = if x < 0 then -1 else if y < 0 then -1 else x * 16 + y := ⟨_, rfl⟩
      rw [← hR]
      have HR := Lib.hid hR; clear hR
      go_enter Tryz.func178, Tryz.ntmps178
      go_wp2_with fail
      refine (c1 _).mono ?_
      rintro e w' ⟨rfl, rfl⟩
      go_wp2_with fail
      refine (c2 _).mono ?_
      rintro e w' ⟨rfl, rfl⟩
      clear c1 c2
      by_cases hx : x < 0
      · go_wp2
        go_ret
        exact ⟨by rw [HR.out, if_pos hx]; rfl, rfl⟩
      · by_cases hy : y < 0
        · go_wp2
          go_ret
          exact ⟨by rw [HR.out, if_neg (by omega), if_pos hy]; rfl, rfl⟩
        · go_wp2
          go_ret
          refine ⟨?_, rfl⟩
          rw [HR.out, if_neg (by omega), if_neg (by omega)]; go_num
    · rw [codeI_ne hc]
      have hc' : ((s[k].toNat : Int) != 37) = true := by
        simp only [bne_iff_ne]; intro h
        exact hc (UInt8.toNat_inj.mp (by have e : (37 : UInt8).toNat = 37 := rfl; omega))
      clear hc
      go_enter Tryz.func178, Tryz.ntmps178
      go_wp2
      go_ret
      exact ⟨rfl, rfl⟩
  · have he : codeI (s.data.toList.drop k) = -1 := by unfold codeI; rw [codeL_short (by rw [List.length_drop, ← size_len]; omega)]
    rw [he]; clear he
    go_enter Tryz.func178, Tryz.ntmps178
    go_wp2
    go_ret
    exact ⟨rfl, rfl⟩

def pathL (l : List UInt8) : List UInt8 := (cutL l 63).1

set_option maxHeartbeats 400000 in
theorem spec_path (s : ByteArray) (w : World) (hs : s.size ≤ maxLen) :
    Calls Tryz.prog 36 #[.string s] w fun e w' => e = .returned (strV (pathL s.data.toList)) ∧ ∃ n, w' = w.drewN n := by
  unfold pathL
  have hx := fun W => spec_cut s 63 W hs
  unfold maxLen at hs
  go_enter Tryz.func36, Tryz.ntmps36
  go_wp2_with fail
  refine (hx _).mono ?_
  rintro e w1 ⟨rfl, n1, rfl⟩
  go_wp2
  go_ret
  exact ⟨rfl, n1, rfl⟩

set_option maxHeartbeats 400000 in
theorem impl_path (s : ByteArray) (w : World) (hs : s.size ≤ 281474976710656) :
    Calls Tryz.prog 96 #[.string s] w fun e w' => e = .returned (strV (pathL s.data.toList)) ∧ Below w.heap.size w w' := by
  unfold pathL
  have hx := fun W => textcut s 63 W (by unfold maxLen; omega)
  have hl1 : (ByteArray.mk (cutL s.data.toList 63).1.toArray).size ≤ 281474976710656 := by
    have := cutL_len s.data.toList 63; rw [size_len]; rw [size_len] at hs; simp only; omega
  generalize cutL s.data.toList 63 = r at *
  obtain ⟨r1, r2, r3⟩ := r
  simp only at hl1 hx ⊢
  go_enter Tryz.func96, Tryz.ntmps96
  go_wp2_with fail
  refine (hx _).mono ?_
  rintro e w1 ⟨rfl, n1, rfl⟩
  go_wp2_with fail
  refine (fresh _ _ hl1).mono ?_
  rintro e w2 ⟨rfl, hb1⟩
  go_wp2
  go_ret
  exact ⟨rfl, below_drewN_left hb1⟩
end Go.Proofs.YtbhnjnoblkfckabGreatDoor

