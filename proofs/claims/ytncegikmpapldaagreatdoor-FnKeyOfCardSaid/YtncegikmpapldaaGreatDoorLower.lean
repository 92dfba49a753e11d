/- Walks: small letters. -/
import Derived.Test.YtncegikmpapldaaGreatDoorTok
import Derived.Lib.ConvBytes
import Derived.Lib.AtoiErrMem
import Derived.Laws.IdiomStrings
namespace Go.Proofs.YtncegikmpapldaaGreatDoor
open Go.RowKit

def lowB (c : UInt8) : UInt8 := if isGreat c = true then c + 32 else c
def lowL (l : List UInt8) : List UInt8 := l.map lowB

/-- A row of bytes that a conversion made: the mark stands behind its end. -/
def BRow (w : World) (g cap : Nat) (l : List UInt8) : Prop :=
  ∃ cur, w.heap[g]? = some (.cells cur 5 (cur.size, cur.size + 1)) ∧ cur.size = cap ∧ l.length ≤ cap ∧ cur.toList.take l.length = l.map fun b => Value.int .u8 (b.toNat : Int)

theorem BRow.made (w : World) (s : ByteArray) : BRow (Lib.bytesWorld w 5 s) w.heap.size (grownCap w s.size 0 5) s.data.toList := by
  have hge := grownCap_ge w s.size 0 5
  refine ⟨_, Lib.bytesWorld_at_new w 5 s, ?_, ?_, ?_⟩
  · simp [Lib.bytesCells]
    have : s.data.size = s.size := rfl
    omega
  · rw [← size_len]; exact hge
  · simp [Lib.bytesCells]

theorem BRow.cell {w : World} {g cap : Nat} {l : List UInt8} (h : BRow w g cap l) {j : Nat} {b : UInt8} (hj : l[j]? = some b) : w.cell? ⟨g, j, none⟩ = some (.int .u8 (b.toNat : Int)) := by
  obtain ⟨cur, h1, h2, h3, h4⟩ := h
  rw [cell_of_row w g j cur 5 _ h1]
  have hjl : j < l.length := by
    rcases Nat.lt_or_ge j l.length with h | h
    · exact h
    · rw [List.getElem?_eq_none h] at hj; cases hj
  have := congrArg (·[j]?) h4
  simp only [List.getElem?_take, if_pos hjl, List.getElem?_map, hj, Option.map_some] at this
  simpa using this

theorem BRow.frozen {w : World} {g cap : Nat} {l : List UInt8} (h : BRow w g cap l) {j : Nat} (hj : j < l.length) : w.frozen? ⟨g, j, none⟩ = false := by
  obtain ⟨cur, h1, h2, h3, h4⟩ := h
  simp [World.frozen?, h1]
  omega

theorem BRow.lt {w : World} {g cap : Nat} {l : List UInt8} (h : BRow w g cap l) : g < w.heap.size := by
  obtain ⟨cur, h1, _⟩ := h
  rcases Nat.lt_or_ge g w.heap.size with hlt | hge
  · exact hlt
  · rw [Array.getElem?_eq_none hge] at h1; cases h1

theorem BRow.set {w : World} {g cap : Nat} {l : List UInt8} (h : BRow w g cap l) {j : Nat} (b : UInt8) (__hj : j < l.length) : BRow (w.setCell ⟨g, j, none⟩ (.int .u8 (b.toNat : Int))) g cap (l.set j b) := by
  obtain ⟨cur, h1, h2, h3, h4⟩ := h
  refine ⟨cur.setIfInBounds j (.int .u8 (b.toNat : Int)), ?_, by simpa using h2, by simpa using h3, ?_⟩
  · have : (w.setCell ⟨g, j, none⟩ (.int .u8 (b.toNat : Int))).heap[g]? = some (.cells (cur.setIfInBounds j (.int .u8 (b.toNat : Int))) 5 (cur.size, cur.size + 1)) := by
      simp [World.setCell, Array.getElem?_modify, h1]
    rw [this]; simp
  · rw [Array.toList_setIfInBounds, List.length_set, List.take_set, h4, List.map_set]

theorem BRow.keep {w w' : World} {g cap : Nat} {l : List UInt8} (h : BRow w g cap l) (hk : w'.heap[g]? = w.heap[g]?) : BRow w' g cap l := by
  obtain ⟨cur, h1, h2⟩ := h
  exact ⟨cur, hk.trans h1, h2⟩

theorem low_set (l : List UInt8) (k : Nat) (b : UInt8) (h : l[k]? = some b) : ((lowL (l.take k)) ++ l.drop k).set k (lowB b) = lowL (l.take (k + 1)) ++ l.drop (k + 1) := by
  have hk : k < l.length := by
    rcases Nat.lt_or_ge k l.length with h' | h'
    · exact h'
    · rw [List.getElem?_eq_none h'] at h; cases h
  have hl : (lowL (l.take k)).length = k := by simp [lowL]; omega
  rw [List.set_append_right _ _ (by omega), hl, Nat.sub_self, take_succ_at h]
  have hd : (l.drop k).set 0 (lowB b) = lowB b :: l.drop (k + 1) := by rw [List.drop_eq_getElem_cons hk]; rfl
  rw [hd]
  simp [lowL]
theorem low_same (l : List UInt8) (k : Nat) (b : UInt8) (h : l[k]? = some b) (hb : lowB b = b) : lowL (l.take k) ++ l.drop k = lowL (l.take (k + 1)) ++ l.drop (k + 1) := by
  rw [← low_set l k b h, hb]
  have hk : k < l.length := by
    rcases Nat.lt_or_ge k l.length with h' | h'
    · exact h'
    · rw [List.getElem?_eq_none h'] at h; cases h
  have hl : (lowL (l.take k)).length = k := by simp [lowL]; omega
  rw [List.set_append_right _ _ (by omega), hl, Nat.sub_self, List.drop_eq_getElem_cons hk]
  have : l[k] = b := by rw [List.getElem?_eq_getElem hk] at h; exact Option.some.inj h
  simp [this]
theorem low_at (l : List UInt8) (k : Nat) (b : UInt8) (h : l[k]? = some b) : (lowL (l.take k) ++ l.drop k)[k]? = some b := by
  have hk : k < l.length := by
    rcases Nat.lt_or_ge k l.length with h' | h'
    · exact h'
    · rw [List.getElem?_eq_none h'] at h; cases h
  have hl : (lowL (l.take k)).length = k := by simp [lowL]; omega
  rw [List.getElem?_append_right (by omega), hl, Nat.sub_self, List.getElem?_drop]
  simpa using h

set_option maxHeartbeats 800000 in
theorem impl_lower0 (s : ByteArray) (w : World) (hs : s.size ≤ maxLen) (h : Cls w) :
    Calls Tryz.prog 172 #[.string s] w fun e w' => e = .returned (strV (lowL s.data.toList)) ∧ Below w.heap.size w w' := by
  have hbw := Lib.bytesWorld_below w 5 s
  have hrow := BRow.made w s
  have hcap := grownCap_le_maxLen w s.size 0 5 hs
  have hge := grownCap_ge w s.size 0 5
  have hcv := Lib.run_convert_string_bytes (P := Tryz.prog) w 79 22 5 s Tryz.underlying79 Tryz.underlying22 Tryz.underlying5
  generalize grownCap w s.size 0 5 = cap at hrow hcap hge hcv
  generalize Lib.bytesWorld w 5 s = w1 at hbw hrow hcv
  unfold maxLen at hs hcap
  have HCL := Lib.hid h
  have HROW := Lib.hid hrow; clear hrow
  clear h
  go_enter Tryz.func172, Tryz.ntmps172
  go_wp2_with fail
  go_loopw [10] (fun i wr => ∃ k : Nat, k ≤ s.size ∧ i = .int .i64 k ∧ BRow wr w.heap.size cap (lowL (s.data.toList.take k) ++ s.data.toList.drop k) ∧ Below w.heap.size w wr) (fun i _ => s.size - (intOf i).toNat)
  case atStart => exact ⟨0, Nat.zero_le _, rfl, by simpa [lowL] using HROW.out, hbw⟩
  case round =>
    obtain ⟨k, hk, rfl, hr, hb⟩ := hrel
    by_cases hlt : k < s.size
    · have hget := at_get s k hlt
      have hcell := hr.cell (low_at _ k _ hget)
      have hfr := hr.frozen (j := k) (by simp [lowL]; omega)
      have hset := hr.set (j := k) (lowB s[k]) (by simp [lowL]; omega)
      rw [low_set _ k _ hget] at hset
      have hsame := low_same s.data.toList k s[k] hget
      have hlow : lowB s[k] = if isGreat s[k] = true then s[k] + 32 else s[k] := rfl
      have hcls := clsOf_eq s[k]
      have hclr := HCL.out.below hb (Nat.le_refl _)
      generalize hc : s[k] = c at *
      have hc8 := c.toNat_lt
      have HC := Lib.hid hc; have HSET := Lib.hid hset; have HSAME := Lib.hid hsame; have HLOW := Lib.hid hlow; have HCLS := Lib.hid hcls; have HGET := Lib.hid hget
      clear hc hset hsame hlow hcls hget
      go_wp2_with fail
      refine (class_of c _ hclr).mono ?_
      rintro e w' ⟨rfl, rfl⟩
      by_cases hg : isGreat c = true
      · have e2 : clsOf c.toNat = 2 := by
          rw [HCLS.out, if_pos hg, if_neg]
          unfold isGreat at hg; unfold isSmall; simp at hg ⊢; omega
        rw [e2]
        have hr1 : 65 ≤ c.toNat ∧ c.toNat ≤ 90 := by unfold isGreat at hg; simpa using hg
        obtain ⟨hg1, hg2⟩ := hr1
        clear e2
        have hval : (c.toNat : Int) - 65 + 97 = ((lowB c).toNat : Int) := by
          rw [HLOW.out, if_pos hg, UInt8.toNat_add]
          have : (32 : UInt8).toNat = 32 := rfl
          rw [this]; omega
        have HV := Lib.hid hval; clear hval
        go_wp2_with fail
        go_roundw
        case rel =>
          refine ⟨k + 1, by omega, by go_num, ?_, ?_⟩
          · rw [HV.out]; exact HSET.out
          · exact hb.setCell (Nat.le_refl _) _
        case measure => simp [intOf]; omega
      · have e2 : ((clsOf c.toNat : Int) == 2) = false := by
          rw [HCLS.out]
          split
          · rfl
          · rfl
        have hlc := HSAME.out (by rw [HLOW.out, if_neg hg])
        rw [hlc] at hr
        clear hlc
        have HR := Lib.hid hr; clear hr
        go_wp2_with fail
        go_roundw
        case rel => exact ⟨k + 1, by omega, by go_num, HR.out, hb⟩
        case measure => simp [intOf]; omega
    · have hks : s.data.toList.length ≤ k := by rw [← size_len]; omega
      rw [List.take_of_length_le hks, List.drop_of_length_le hks, List.append_nil] at hr
      have hll : (lowL s.data.toList).length = s.size := by rw [size_len]; simp [lowL]
      have hcv2 := run_convert_bytes_back (P := Tryz.prog) wr 22 79 5 ⟨w.heap.size, 0, none⟩ cap (lowL s.data.toList) Tryz.underlying22 Tryz.underlying5 Tryz.underlying79 (fun j hj => by
        have := hr.cell (List.getElem?_eq_getElem hj)
        have ea : (⟨w.heap.size, 0, none⟩ : Addr).add j = ⟨w.heap.size, j, none⟩ := by unfold Addr.add; split <;> simp_all
        rw [ea]; exact this)
      rw [hll] at hcv2
      clear hll hr
      go_wp2_with fail
      go_ret
      exact ⟨rfl, hb⟩

set_option maxHeartbeats 400000 in
theorem impl_lower (s : ByteArray) (w : World) (hs : s.size ≤ maxLen) (h : Cls w) :
    Calls Tryz.prog 145 #[.string s] w fun e w' => e = .returned (strV (lowL s.data.toList)) ∧ Below w.heap.size w w' := by
  go_enter Tryz.func145, Tryz.ntmps145
  go_wp2_with fail
  refine (impl_lower0 _ _ hs h).mono ?_
  rintro e w1 ⟨rfl, hb⟩
  go_wp2
  go_ret
  exact ⟨rfl, hb⟩

theorem lowL_snoc {s : ByteArray} {k : Nat} (hk : k < s.size) : lowL (s.data.toList.take (k + 1)) = lowL (s.data.toList.take k) ++ [lowB s[k]] := by
  rw [take_succ_at (at_get s k hk)]; simp [lowL]
theorem ext_one (s : ByteArray) (k : Nat) (hk : k < s.size) : s.extract k (k + 1) = ⟨#[s[k]]⟩ := by
  apply ByteArray.ext
  apply Array.toList_inj.mp
  rw [ByteArray.data_extract, Array.toList_extract, List.extract_eq_take_drop]
  have := at_get s k hk
  rw [show k + 1 - k = 1 from by omega, List.take_one, List.head?_drop, this]; rfl

set_option maxHeartbeats 800000 in
theorem spec_lower (s : ByteArray) (w : World) (hs : s.size ≤ 1048576) :
    Calls Tryz.prog 119 #[.string s] w fun e w' => e = .returned (strV (lowL s.data.toList)) ∧ Below w.heap.size w w' := by
  go_enter Tryz.func119, Tryz.ntmps119
  go_wp2_with fail
  go_loopw [3, 4] (fun out i wr => ∃ k : Nat, k ≤ s.size ∧ i = .int .i64 k ∧ out = .string ⟨(lowL (s.data.toList.take k)).toArray⟩ ∧ Below w.heap.size w wr) (fun _ i _ => s.size - (intOf i).toNat)
  case atStart => exact ⟨0, Nat.zero_le _, rfl, by simp [lowL], Below.refl _ _⟩
  case round =>
    obtain ⟨k, hk, rfl, rfl, hb⟩ := hrel
    have hsz : (lowL (s.data.toList.take k)).length ≤ 1048576 := by simp [lowL]; omega
    by_cases hlt : k < s.size
    · have hsn := lowL_snoc hlt
      have hext := ext_one s k hlt
      generalize lowL (s.data.toList.take k) = acc at *
      have hlow : lowB s[k] = if isGreat s[k] = true then s[k] + 32 else s[k] := rfl
      have hgr : isGreat s[k] = (decide (65 ≤ s[k].toNat) && decide (s[k].toNat ≤ 90)) := rfl
      have hc8 := s[k].toNat_lt
      have HSN := Lib.hid hsn; have HEX := Lib.hid hext; have HL := Lib.hid hlow; have HG := Lib.hid hgr
      clear hsn hext hlow hgr
      by_cases hg : 65 ≤ s[k].toNat ∧ s[k].toNat ≤ 90
      · obtain ⟨h1, h2⟩ := hg
        have hcv := fun W => run_conv1 (P := Tryz.prog) 22 9 5 5 Tryz.underlying22 Tryz.underlying5 Tryz.underlying9 W ((s[k].toNat : Int) + 32) (by omega) (by omega)
        have hx : UInt8.ofNat ((s[k].toNat : Int) + 32).toNat = lowB s[k] := by
          rw [HL.out, HG.out]
          simp only [h1, h2, decide_true, Bool.and_self, if_true]
          apply UInt8.toNat_inj.mp
          rw [UInt8.toNat_add]
          simp
          omega
        rw [hx] at hcv
        clear hx
        go_wp2_with fail
        go_roundw
        case rel =>
          refine ⟨k + 1, by omega, by go_num, ?_, hb.alloc hb.size _⟩
          rw [HSN.out]
          exact congrArg Value.string (cat_mk acc [lowB s[k]])
        case measure => simp [intOf]; omega
      · have hx : lowB s[k] = s[k] := by
          rw [HL.out, HG.out, if_neg]
          intro h; apply hg; simpa using h
        have HX := Lib.hid hx; clear hx
        have hg2 : s[k].toNat < 65 ∨ (65 ≤ s[k].toNat ∧ 90 < s[k].toNat) := by omega
        have hes : (s.extract k (k + 1)).size ≤ 1 := by rw [ByteArray.size_extract]; omega
        rcases hg2 with hg2 | ⟨hg2, hg3⟩
        all_goals
          go_wp2_with fail
          go_roundw
          case rel =>
            refine ⟨k + 1, by omega, by go_num, ?_, hb⟩
            rw [HSN.out, HX.out, HEX.out]
            exact congrArg Value.string (cat_mk acc [s[k]])
          case measure => simp [intOf]; omega
    · go_wp2_with fail
      go_ret
      have hks : s.data.toList.length ≤ k := by rw [← size_len]; omega
      refine ⟨?_, hb⟩
      rw [List.take_of_length_le hks]; rfl
end Go.Proofs.YtncegikmpapldaaGreatDoor
