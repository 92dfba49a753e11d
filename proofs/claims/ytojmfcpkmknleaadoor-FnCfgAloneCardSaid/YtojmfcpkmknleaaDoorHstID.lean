/- Walks: hosts, by the program. -/
import Derived.Test.YtojmfcpkmknleaaDoorHstP
import Derived.Test.YtojmfcpkmknleaaDoorShelf
import Derived.Test.YtojmfcpkmknleaaDoorHstWD
import Derived.Lib.Strings
namespace Go.Proofs.YtojmfcpkmknleaaDoor
open Go.RowKit

/-- Without ':80' at the end. -/
def trimP (l : List UInt8) : List UInt8 := Lib.trimSuffix l [58, 56, 48]
theorem trim_host (l : List UInt8) : hostR l = if hostB (trimP (lowL l)) = true then (⟨(trimP (lowL l)).toArray⟩, true) else (⟨#[]⟩, false) := by
  have key : ∀ t : List UInt8, (hostB (stripL t) = true → trimP t = stripL t) ∧ (hostB (stripL t) = false → hostB (trimP t) = false) := by
    intro t
    unfold trimP Lib.trimSuffix
    rw [← Lib.hasSuffix_of_drop]
    simp only [List.length_cons, List.length_nil, Nat.zero_add, Nat.reduceAdd]
    unfold stripL
    by_cases h3 : 3 < t.length
    · by_cases hd : t.drop (t.length - 3) = [58, 56, 48]
      · rw [if_pos ⟨h3, hd⟩, hd]
        have : (decide (3 ≤ t.length) && ([58, 56, 48] : List UInt8) == [58, 56, 48]) = true := by simp; omega
        rw [if_pos this]
        exact ⟨fun _ => rfl, fun h => h⟩
      · rw [if_neg (fun h => hd h.2)]
        have : (decide (3 ≤ t.length) && (t.drop (t.length - 3)) == [58, 56, 48]) = false := by
          rw [Bool.and_eq_false_iff]; right; simpa using hd
        rw [if_neg (by rw [this]; decide)]
        exact ⟨fun _ => rfl, fun h => h⟩
    · rw [if_neg (fun h => h3 h.1)]
      by_cases hs : (decide (3 ≤ t.length) && (t.drop (t.length - 3)) == [58, 56, 48]) = true
      · rw [if_pos hs]
        rw [Bool.and_eq_true, decide_eq_true_eq, beq_iff_eq] at hs
        have hl : t.length = 3 := by omega
        have ht : t = [58, 56, 48] := by
          have := hs.2
          rw [hl] at this
          simpa using this
        subst ht
        refine ⟨fun h => absurd h (by decide), fun _ => by decide⟩
      · rw [if_neg hs]
        exact ⟨fun _ => rfl, fun h => h⟩
  unfold hostR hostC
  obtain ⟨k1, k2⟩ := key (lowL l)
  cases hb : hostB (stripL (lowL l))
  · rw [k2 hb]; rfl
  · rw [k1 hb, hb]

set_option maxHeartbeats 1600000 in
theorem impl_host (s : ByteArray) (w : World) (hs : s.size ≤ 1048576) (hcls : Cls w) :
    Calls Tryd.prog 68 #[.string s] w fun e w' => e = .returned (.tuple #[.string (hostR s.data.toList).1, .bool (hostR s.data.toList).2]) ∧ Below w.heap.size w w' := by
  have hL := fun W hW => impl_lower s W (by unfold maxLen; omega) hW
  have hlen : (lowL s.data.toList).length = s.size := by rw [low_len, size_len]
  have hR := trim_host s.data.toList
  generalize lowL s.data.toList = t at *
  unfold strV at hL
  have hts : (ByteArray.mk t.toArray).size = s.size := by rw [size_len]; simpa using hlen
  have htl : (ByteArray.mk t.toArray).data.toList = t := by simp
  have hT := fun W => Tryd.strings_TrimSuffix ⟨t.toArray⟩ ⟨#[58, 56, 48]⟩ W (by rw [hts]; omega)
  rw [htl] at hT
  have hple : (trimP t).length ≤ s.size := by rw [← hlen]; exact Lib.trimSuffix_le _ _
  have hT' : ∀ W, Calls Tryd.prog 72 #[.string ⟨t.toArray⟩, .string ⟨#[58, 56, 48]⟩] W fun e w' => e = .returned (.string ⟨(trimP t).toArray⟩) ∧ w' = W := hT
  clear hT htl
  generalize trimP t = p at *
  have hXl : (ByteArray.mk p.toArray).data.toList = p := by simp
  have hXs : (ByteArray.mk p.toArray).size = p.length := by rw [size_len]
  generalize hX : (ByteArray.mk p.toArray) = X at *
  have hPar := fun W => impl_parts X 46 W (by omega)
  rw [hXl] at hPar
  have HXl := Lib.hid hXl; clear hXl hX
  have HR := Lib.hid hR; clear hR
  generalize (ByteArray.mk t.toArray) = T at *
  go_enter Tryd.func68, Tryd.ntmps68
  go_wp2_with fail
  refine (hL _ hcls).mono ?_
  rintro e w1 ⟨rfl, hb1⟩
  go_wp2_with fail
  refine (hT' _).mono ?_
  rintro e w2 ⟨rfl, rfl⟩
  clear hT' hL
  by_cases h20 : X.size ≤ 20
  · go_wp2_with fail
    refine (hPar _).mono ?_
    rintro e w2 ⟨v, rfl, ho, hb2⟩
    have hne := partsL_ne p 46
    have hpos : 0 < (partsL p 46).length := by
      cases hp : partsL p 46 with
      | nil => exact absurd hp hne
      | cons => simp
    obtain ⟨g, cap, rfl⟩ := own_form ho hpos
    have hplen := partsL_len p 46
    have hcell : ∀ j x, (partsL p 46)[j]? = some x → w2.cell? ⟨g, j, none⟩ = some (.string ⟨x.toArray⟩) := fun j x hj => own_cell ho (by rw [List.getElem?_map, hj]; rfl)
    have hgl := (ho.lt g rfl).2
    have hplB : ∀ x ∈ partsL p 46, x.length ≤ p.length := fun x hp => parts_le hp
    have HCell := Lib.hid hcell; have HPl := Lib.hid hplB
    have hbel := hb1.trans (hb2.mono hb1.size)
    have HBel := Lib.hid hbel
    have hhb : hostB p = (decide (p.length ≤ 20) && (partsL p 46).all tokB) := rfl
    have HH := Lib.hid hhb
    have hcls2 := (hcls.below hb1 (Nat.le_refl _)).below hb2 (Nat.le_refl _)
    clear ho hcell hplB hne hb1 hb2 hbel hhb hPar hcls
    generalize hPs : partsL p 46 = Ps at *
    have HPs := Lib.hid hPs
    clear hPs
    go_wp2_with fail
    go_loopw [16] (fun i wr => ∃ k : Nat, k ≤ Ps.length ∧ i = .int .i64 k ∧ (Ps.take k).all tokB = true ∧ wr = w2) (fun i _ => Ps.length - (intOf i).toNat)
    case atStart => exact ⟨0, Nat.zero_le _, rfl, by simp, rfl⟩
    case round =>
      obtain ⟨k, hk, rfl, hall, rfl⟩ := hrel
      by_cases hlt : k < Ps.length
      · have hgk : Ps[k]? = some Ps[k] := List.getElem?_eq_getElem hlt
        have c0 := HCell.out k _ hgk
        have hpk := HPl.out Ps[k] (List.getElem_mem hlt)
        have htk : Ps.take (k + 1) = Ps.take k ++ [Ps[k]] := by rw [List.take_add_one, hgk]; rfl
        have hmem : Ps[k] ∈ Ps := List.getElem_mem hlt
        generalize Ps[k] = q at *
        have hT := fun W hW => impl_tok ⟨q.toArray⟩ W (by unfold maxLen; rw [size_len]; simp only; omega) hW
        have hpl : (ByteArray.mk q.toArray).data.toList = q := by simp
        rw [hpl] at hT
        have HTk := Lib.hid htk
        clear htk hpl hgk
        cases htp : tokB q
        · rw [htp] at hT
          have hf : hostB p = false := by
            rw [HH.out]
            have : Ps.all tokB = false := by
              rw [Bool.eq_false_iff]; intro h
              rw [List.all_eq_true] at h
              rw [h q hmem] at htp; cases htp
            rw [this, Bool.and_false]
          have hr := HR.out
          rw [hf] at hr
          have HF := Lib.hid hr
          clear hf htp hmem hr
          go_wp2_with fail
          refine (hT _ hcls2).mono ?_
          rintro e w3 ⟨rfl, rfl⟩
          go_wp2
          go_ret2
          rw [HF.out]
          exact ⟨rfl, HBel.out⟩
        · rw [htp] at hT
          have hall' : (Ps.take (k + 1)).all tokB = true := by rw [HTk.out, List.all_append, hall]; simp [htp]
          have HA := Lib.hid hall'
          clear hall' htp hmem hall
          go_wp2_with fail
          refine (hT _ hcls2).mono ?_
          rintro e w3 ⟨rfl, rfl⟩
          go_wp2
          go_roundw
          case rel => exact ⟨k + 1, by omega, by go_num, HA.out, trivial⟩
          case measure => simp [intOf]; omega
      · have hkn : k = Ps.length := by omega
        subst hkn
        rw [List.take_of_length_le (Nat.le_refl _)] at hall
        have hf : hostB p = true := by
          rw [HH.out, hall, Bool.and_true, decide_eq_true_eq, ← hXs]; exact h20
        have hr := HR.out
        rw [hf, if_pos rfl] at hr
        have HF := Lib.hid hr
        clear hf hr hall
        go_wp2
        go_ret2
        rw [HF.out]
        exact ⟨rfl, HBel.out⟩
  · have hf : hostB p = false := by unfold hostB; rw [decide_eq_false (by rw [← hXs]; exact h20), Bool.false_and]
    have hr := HR.out
    rw [hf] at hr
    have HF := Lib.hid hr
    have HB := Lib.hid hb1
    clear hf hr hb1
    go_wp2
    go_ret2
    rw [HF.out]
    exact ⟨rfl, HB.out⟩
end Go.Proofs.YtojmfcpkmknleaaDoor
