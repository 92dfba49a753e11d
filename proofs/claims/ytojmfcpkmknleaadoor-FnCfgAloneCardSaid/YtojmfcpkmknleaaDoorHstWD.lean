/- Walks: hosts, by the specification. -/
import Derived.Test.YtojmfcpkmknleaaDoorHstP
import Derived.Test.YtojmfcpkmknleaaDoorOwn2
namespace Go.Proofs.YtojmfcpkmknleaaDoor
open Go.RowKit

theorem low_len (l : List UInt8) : (lowL l).length = l.length := by simp [lowL]

/-- No part is longer than the text. -/
theorem parts_le {c : UInt8} : ∀ {l p : List UInt8}, p ∈ partsL l c → p.length ≤ l.length := by
  intro l
  induction l with
  | nil => intro p h; have : p = [] := by simpa [partsL] using h
           subst this; exact Nat.le_refl _
  | cons x l ih =>
    intro p h
    have e1 : partsL (x :: l) c = if x = c then [] :: partsL l c else match partsL l c with
      | [] => [[x]]
      | p :: ps => (x :: p) :: ps := rfl
    rw [e1] at h
    by_cases hx : x = c
    · rw [if_pos hx] at h
      rcases List.mem_cons.1 h with rfl | h
      · simp
      · have := ih h; simp; omega
    · rw [if_neg hx] at h
      cases hp : partsL l c with
      | nil => exact absurd hp (partsL_ne l c)
      | cons q qs =>
        rw [hp] at h
        dsimp only at h
        rcases List.mem_cons.1 h with rfl | h
        · have := ih (p := q) (by rw [hp]; exact List.mem_cons_self ..); simp; omega
        · have := ih (p := p) (by rw [hp]; exact List.mem_cons_of_mem _ h); simp; omega

set_option maxHeartbeats 3200000 in
theorem spec_host (s : ByteArray) (w : World) (hs : s.size ≤ 1048576) :
    Calls Tryd.prog 48 #[.string s] w fun e w' => e = .returned (.tuple #[.string (hostR s.data.toList).1, .bool (hostR s.data.toList).2]) ∧ Below w.heap.size w w' := by
  have hL := fun W => spec_lower s W hs
  have hlen : (lowL s.data.toList).length = s.size := by rw [low_len, size_len]
  have hR : hostR s.data.toList = if hostB (stripL (lowL s.data.toList)) = true then (⟨(stripL (lowL s.data.toList)).toArray⟩, true) else (⟨#[]⟩, false) := rfl
  generalize lowL s.data.toList = t at *
  unfold strV at hL
  have hstrip : stripL t = if 3 < s.size ∧ t.drop (s.size - 3) = [58, 56, 48] then t.take (s.size - 3) else t := by unfold stripL; rw [hlen]
  have hts : (ByteArray.mk t.toArray).size = s.size := by rw [size_len]; simpa using hlen
  have hdr : (ByteArray.mk t.toArray).extract (s.size - 3) s.size = ⟨(t.drop (s.size - 3)).toArray⟩ := by
    have := ext_drop (ByteArray.mk t.toArray) (s.size - 3)
    rw [hts] at this
    rw [this]
  have htk : (ByteArray.mk t.toArray).extract 0 (s.size - 3) = ⟨(t.take (s.size - 3)).toArray⟩ := by
    rw [ext_take]
  obtain ⟨X, hX⟩ : ∃ X : ByteArray, X = ⟨(stripL t).toArray⟩ := ⟨_, rfl⟩
  have hXl : X.data.toList = stripL t := by rw [hX]
  have HX := Lib.hid hX; have HXl := Lib.hid hXl
  have hXs : X.size ≤ 1048576 := by
    rw [size_len, hXl, hstrip]
    split
    · rw [List.length_take]; omega
    · omega
  by_cases h3 : 3 < s.size
  · by_cases hd : t.drop (s.size - 3) = [58, 56, 48]
    · rw [if_pos ⟨h3, hd⟩] at hstrip
      have hy : (ByteArray.mk t.toArray).extract 0 (s.size - 3) = X := by rw [htk, hX, hstrip]
      have he : (((ByteArray.mk t.toArray).extract (s.size - 3) s.size).toList == [58, 56, 48]) = true := by rw [hdr, Lib.toList_data]; simp [hd]
      have i1 : (3 : Int) < (s.size : Int) := by omega
      clear hdr htk hd hstrip
      generalize (ByteArray.mk t.toArray) = T at *
      have HY := Lib.hid hy; clear hy
      clear hX hXl
      go_enter Tryd.func48, Tryd.ntmps48
      go_wp2_with fail
      refine (hL _).mono ?_
      rintro e w1 ⟨rfl, hb1⟩
      go_wp2_with fail
      rw [HY.out]
      refine (spec_parts X 46 _ hXs).mono ?_
      rintro e w2 ⟨v, rfl, ho, hb2⟩

      have hSl : (stripL t).length = X.size := by rw [size_len, HXl.out]
      have ho' := ho
      rw [HXl.out] at ho
      have hne := partsL_ne (stripL t) 46
      have hpos : 0 < (partsL (stripL t) 46).length := by
        cases hp : partsL (stripL t) 46 with
        | nil => exact absurd hp hne
        | cons => simp
      obtain ⟨g, cap, rfl⟩ := own_form ho hpos
      have hplen := partsL_len (stripL t) 46
      have hcell : ∀ j p, (partsL (stripL t) 46)[j]? = some p → w2.cell? ⟨g, j, none⟩ = some (.string ⟨p.toArray⟩) := fun j p hj => own_cell ho (by rw [List.getElem?_map, hj]; rfl)
      have hgl := (ho.lt g rfl).2
      have hplB : ∀ p ∈ partsL (stripL t) 46, p.length ≤ (stripL t).length := fun p hp => parts_le hp
      have HCell := Lib.hid hcell; have HPl := Lib.hid hplB
      have hbel := hb1.trans (hb2.mono hb1.size)
      have HBel := Lib.hid hbel
      have hhb : hostB (stripL t) = (decide ((stripL t).length ≤ 20) && (partsL (stripL t) 46).all tokB) := rfl
      have HH := Lib.hid hhb
      clear ho ho' hcell hplB hne hb1 hb2 hbel hhb hL
      generalize hPs : partsL (stripL t) 46 = Ps at *
      have HPs := Lib.hid hPs
      clear hPs
      by_cases h20 : X.size ≤ 20
      · go_wp2_with fail
        go_loopw [6] (fun i wr => ∃ k : Nat, k ≤ Ps.length ∧ i = .int .i64 k ∧ (Ps.take k).all tokB = true ∧ wr = w2) (fun i _ => Ps.length - (intOf i).toNat)
        case atStart => exact ⟨0, Nat.zero_le _, rfl, by simp, rfl⟩
        case round =>
          obtain ⟨k, hk, rfl, hall, rfl⟩ := hrel
          by_cases hlt : k < Ps.length
          · have hgk : Ps[k]? = some Ps[k] := List.getElem?_eq_getElem hlt
            have c0 := HCell.out k _ hgk
            have hpk := HPl.out Ps[k] (List.getElem_mem hlt)
            have htk : Ps.take (k + 1) = Ps.take k ++ [Ps[k]] := by rw [List.take_add_one, hgk]; rfl
            have hmem : Ps[k] ∈ Ps := List.getElem_mem hlt
            generalize Ps[k] = p at *
            have hT := fun W => spec_tok ⟨p.toArray⟩ W (by unfold maxLen; rw [size_len]; simp only; omega)
            have hpl : (ByteArray.mk p.toArray).data.toList = p := by simp
            rw [hpl] at hT
            have HTk := Lib.hid htk
            clear htk hpl hgk
            cases htp : tokB p
            · rw [htp] at hT
              have hf : hostB (stripL t) = false := by
                rw [HH.out]
                have : Ps.all tokB = false := by
                  rw [Bool.eq_false_iff]; intro h
                  rw [List.all_eq_true] at h
                  rw [h p hmem] at htp; cases htp
                rw [this, Bool.and_false]
              rw [hf] at hR
              have HF := Lib.hid hR
              clear hf htp hmem hR
              go_wp2_with fail
              refine (hT _).mono ?_
              rintro e w3 ⟨rfl, rfl⟩
              go_wp2
              go_ret2
              rw [HF.out]
              exact ⟨rfl, HBel.out⟩
            · rw [htp] at hT
              have hall' : (Ps.take (k + 1)).all tokB = true := by rw [HTk.out, List.all_append, hall]; simp [htp]
              have HA := Lib.hid hall'
              clear hall' htp hmem hall
              go_wp2_with fail
              refine (hT _).mono ?_
              rintro e w3 ⟨rfl, rfl⟩
              go_wp2
              go_roundw
              case rel => exact ⟨k + 1, by omega, by go_num, HA.out, trivial⟩
              case measure => simp [intOf]; omega
          · have hkn : k = Ps.length := by omega
            subst hkn
            rw [List.take_of_length_le (Nat.le_refl _)] at hall
            have hf : hostB (stripL t) = true := by
              rw [HH.out, hall, Bool.and_true, decide_eq_true_eq, ← HXl.out, ← size_len]; exact h20
            rw [hf, if_pos rfl, ← HX.out] at hR
            have HF := Lib.hid hR
            clear hf hR hall
            go_wp2
            go_ret2
            rw [HF.out]
            exact ⟨rfl, HBel.out⟩
      · have hf : hostB (stripL t) = false := by
          rw [HH.out, decide_eq_false (by rw [← HXl.out, ← size_len]; exact h20), Bool.false_and]
        rw [hf] at hR
        have HF := Lib.hid hR
        clear hf hR
        go_wp2
        go_ret2
        rw [HF.out]
        exact ⟨rfl, HBel.out⟩
    · rw [if_neg (fun h => hd h.2)] at hstrip
      have hy : X = (ByteArray.mk t.toArray) := by rw [hX, hstrip]
      have he : (((ByteArray.mk t.toArray).extract (s.size - 3) s.size).toList == [58, 56, 48]) = false := by rw [hdr, Lib.toList_data]; simpa using hd
      have i1 : (3 : Int) < (s.size : Int) := by omega
      clear hdr htk hd hstrip
      generalize (ByteArray.mk t.toArray) = T at *
      subst hy
      clear hX hXl
      go_enter Tryd.func48, Tryd.ntmps48
      go_wp2_with fail
      refine (hL _).mono ?_
      rintro e w1 ⟨rfl, hb1⟩
      go_wp2_with fail
      refine (spec_parts X 46 _ hXs).mono ?_
      rintro e w2 ⟨v, rfl, ho, hb2⟩

      have hSl : (stripL t).length = X.size := by rw [size_len, HXl.out]
      have ho' := ho
      rw [HXl.out] at ho
      have hne := partsL_ne (stripL t) 46
      have hpos : 0 < (partsL (stripL t) 46).length := by
        cases hp : partsL (stripL t) 46 with
        | nil => exact absurd hp hne
        | cons => simp
      obtain ⟨g, cap, rfl⟩ := own_form ho hpos
      have hplen := partsL_len (stripL t) 46
      have hcell : ∀ j p, (partsL (stripL t) 46)[j]? = some p → w2.cell? ⟨g, j, none⟩ = some (.string ⟨p.toArray⟩) := fun j p hj => own_cell ho (by rw [List.getElem?_map, hj]; rfl)
      have hgl := (ho.lt g rfl).2
      have hplB : ∀ p ∈ partsL (stripL t) 46, p.length ≤ (stripL t).length := fun p hp => parts_le hp
      have HCell := Lib.hid hcell; have HPl := Lib.hid hplB
      have hbel := hb1.trans (hb2.mono hb1.size)
      have HBel := Lib.hid hbel
      have hhb : hostB (stripL t) = (decide ((stripL t).length ≤ 20) && (partsL (stripL t) 46).all tokB) := rfl
      have HH := Lib.hid hhb
      clear ho ho' hcell hplB hne hb1 hb2 hbel hhb hL
      generalize hPs : partsL (stripL t) 46 = Ps at *
      have HPs := Lib.hid hPs
      clear hPs
      by_cases h20 : X.size ≤ 20
      · go_wp2_with fail
        go_loopw [6] (fun i wr => ∃ k : Nat, k ≤ Ps.length ∧ i = .int .i64 k ∧ (Ps.take k).all tokB = true ∧ wr = w2) (fun i _ => Ps.length - (intOf i).toNat)
        case atStart => exact ⟨0, Nat.zero_le _, rfl, by simp, rfl⟩
        case round =>
          obtain ⟨k, hk, rfl, hall, rfl⟩ := hrel
          by_cases hlt : k < Ps.length
          · have hgk : Ps[k]? = some Ps[k] := List.getElem?_eq_getElem hlt
            have c0 := HCell.out k _ hgk
            have hpk := HPl.out Ps[k] (List.getElem_mem hlt)
            have htk : Ps.take (k + 1) = Ps.take k ++ [Ps[k]] := by rw [List.take_add_one, hgk]; rfl
            have hmem : Ps[k] ∈ Ps := List.getElem_mem hlt
            generalize Ps[k] = p at *
            have hT := fun W => spec_tok ⟨p.toArray⟩ W (by unfold maxLen; rw [size_len]; simp only; omega)
            have hpl : (ByteArray.mk p.toArray).data.toList = p := by simp
            rw [hpl] at hT
            have HTk := Lib.hid htk
            clear htk hpl hgk
            cases htp : tokB p
            · rw [htp] at hT
              have hf : hostB (stripL t) = false := by
                rw [HH.out]
                have : Ps.all tokB = false := by
                  rw [Bool.eq_false_iff]; intro h
                  rw [List.all_eq_true] at h
                  rw [h p hmem] at htp; cases htp
                rw [this, Bool.and_false]
              rw [hf] at hR
              have HF := Lib.hid hR
              clear hf htp hmem hR
              go_wp2_with fail
              refine (hT _).mono ?_
              rintro e w3 ⟨rfl, rfl⟩
              go_wp2
              go_ret2
              rw [HF.out]
              exact ⟨rfl, HBel.out⟩
            · rw [htp] at hT
              have hall' : (Ps.take (k + 1)).all tokB = true := by rw [HTk.out, List.all_append, hall]; simp [htp]
              have HA := Lib.hid hall'
              clear hall' htp hmem hall
              go_wp2_with fail
              refine (hT _).mono ?_
              rintro e w3 ⟨rfl, rfl⟩
              go_wp2
              go_roundw
              case rel => exact ⟨k + 1, by omega, by go_num, HA.out, trivial⟩
              case measure => simp [intOf]; omega
          · have hkn : k = Ps.length := by omega
            subst hkn
            rw [List.take_of_length_le (Nat.le_refl _)] at hall
            have hf : hostB (stripL t) = true := by
              rw [HH.out, hall, Bool.and_true, decide_eq_true_eq, ← HXl.out, ← size_len]; exact h20
            rw [hf, if_pos rfl, ← HX.out] at hR
            have HF := Lib.hid hR
            clear hf hR hall
            go_wp2
            go_ret2
            rw [HF.out]
            exact ⟨rfl, HBel.out⟩
      · have hf : hostB (stripL t) = false := by
          rw [HH.out, decide_eq_false (by rw [← HXl.out, ← size_len]; exact h20), Bool.false_and]
        rw [hf] at hR
        have HF := Lib.hid hR
        clear hf hR
        go_wp2
        go_ret2
        rw [HF.out]
        exact ⟨rfl, HBel.out⟩
  · rw [if_neg (fun h => h3 h.1)] at hstrip
    have hy : X = (ByteArray.mk t.toArray) := by rw [hX, hstrip]
    have i1 : ¬ (3 : Int) < (s.size : Int) := by omega
    clear hdr htk hstrip
    generalize (ByteArray.mk t.toArray) = T at *
    subst hy
    clear hX hXl
    go_enter Tryd.func48, Tryd.ntmps48
    go_wp2_with fail
    refine (hL _).mono ?_
    rintro e w1 ⟨rfl, hb1⟩
    go_wp2_with fail
    refine (spec_parts X 46 _ hXs).mono ?_
    rintro e w2 ⟨v, rfl, ho, hb2⟩

    have hSl : (stripL t).length = X.size := by rw [size_len, HXl.out]
    have ho' := ho
    rw [HXl.out] at ho
    have hne := partsL_ne (stripL t) 46
    have hpos : 0 < (partsL (stripL t) 46).length := by
      cases hp : partsL (stripL t) 46 with
      | nil => exact absurd hp hne
      | cons => simp
    obtain ⟨g, cap, rfl⟩ := own_form ho hpos
    have hplen := partsL_len (stripL t) 46
    have hcell : ∀ j p, (partsL (stripL t) 46)[j]? = some p → w2.cell? ⟨g, j, none⟩ = some (.string ⟨p.toArray⟩) := fun j p hj => own_cell ho (by rw [List.getElem?_map, hj]; rfl)
    have hgl := (ho.lt g rfl).2
    have hplB : ∀ p ∈ partsL (stripL t) 46, p.length ≤ (stripL t).length := fun p hp => parts_le hp
    have HCell := Lib.hid hcell; have HPl := Lib.hid hplB
    have hbel := hb1.trans (hb2.mono hb1.size)
    have HBel := Lib.hid hbel
    have hhb : hostB (stripL t) = (decide ((stripL t).length ≤ 20) && (partsL (stripL t) 46).all tokB) := rfl
    have HH := Lib.hid hhb
    clear ho ho' hcell hplB hne hb1 hb2 hbel hhb hL
    generalize hPs : partsL (stripL t) 46 = Ps at *
    have HPs := Lib.hid hPs
    clear hPs
    by_cases h20 : X.size ≤ 20
    · go_wp2_with fail
      go_loopw [6] (fun i wr => ∃ k : Nat, k ≤ Ps.length ∧ i = .int .i64 k ∧ (Ps.take k).all tokB = true ∧ wr = w2) (fun i _ => Ps.length - (intOf i).toNat)
      case atStart => exact ⟨0, Nat.zero_le _, rfl, by simp, rfl⟩
      case round =>
        obtain ⟨k, hk, rfl, hall, rfl⟩ := hrel
        by_cases hlt : k < Ps.length
        · have hgk : Ps[k]? = some Ps[k] := List.getElem?_eq_getElem hlt
          have c0 := HCell.out k _ hgk
          have hpk := HPl.out Ps[k] (List.getElem_mem hlt)
          have htk : Ps.take (k + 1) = Ps.take k ++ [Ps[k]] := by rw [List.take_add_one, hgk]; rfl
          have hmem : Ps[k] ∈ Ps := List.getElem_mem hlt
          generalize Ps[k] = p at *
          have hT := fun W => spec_tok ⟨p.toArray⟩ W (by unfold maxLen; rw [size_len]; simp only; omega)
          have hpl : (ByteArray.mk p.toArray).data.toList = p := by simp
          rw [hpl] at hT
          have HTk := Lib.hid htk
          clear htk hpl hgk
          cases htp : tokB p
          · rw [htp] at hT
            have hf : hostB (stripL t) = false := by
              rw [HH.out]
              have : Ps.all tokB = false := by
                rw [Bool.eq_false_iff]; intro h
                rw [List.all_eq_true] at h
                rw [h p hmem] at htp; cases htp
              rw [this, Bool.and_false]
            rw [hf] at hR
            have HF := Lib.hid hR
            clear hf htp hmem hR
            go_wp2_with fail
            refine (hT _).mono ?_
            rintro e w3 ⟨rfl, rfl⟩
            go_wp2
            go_ret2
            rw [HF.out]
            exact ⟨rfl, HBel.out⟩
          · rw [htp] at hT
            have hall' : (Ps.take (k + 1)).all tokB = true := by rw [HTk.out, List.all_append, hall]; simp [htp]
            have HA := Lib.hid hall'
            clear hall' htp hmem hall
            go_wp2_with fail
            refine (hT _).mono ?_
            rintro e w3 ⟨rfl, rfl⟩
            go_wp2
            go_roundw
            case rel => exact ⟨k + 1, by omega, by go_num, HA.out, trivial⟩
            case measure => simp [intOf]; omega
        · have hkn : k = Ps.length := by omega
          subst hkn
          rw [List.take_of_length_le (Nat.le_refl _)] at hall
          have hf : hostB (stripL t) = true := by
            rw [HH.out, hall, Bool.and_true, decide_eq_true_eq, ← HXl.out, ← size_len]; exact h20
          rw [hf, if_pos rfl, ← HX.out] at hR
          have HF := Lib.hid hR
          clear hf hR hall
          go_wp2
          go_ret2
          rw [HF.out]
          exact ⟨rfl, HBel.out⟩
    · exact absurd (by omega) h20
end Go.Proofs.YtojmfcpkmknleaaDoor
