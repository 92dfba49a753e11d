import Derived.Test.YtbhnjnoblkfckaaGreatDoorGZ00
import Derived.Test.YtbhnjnoblkfckaaGreatDoorGZ01
import Derived.Test.YtbhnjnoblkfckaaGreatDoorGZ03
import Derived.Test.YtbhnjnoblkfckaaGreatDoorShelf
import Derived.Lib.Strings
import Derived.Deep.AppendSrc
-- from XHstW
/- Walks: hosts, verbs, names of a request's own, bodies, by the specification. -/
namespace Go.Proofs.YtbhnjnoblkfckaaGreatDoor
open Go.RowKit

/-- No part is longer than the text. -/
theorem parts_le {c : UInt8} : ∀ {l p : List UInt8}, p ∈ partsL l c → p.length ≤ l.length := by
  intro l
  induction l with
  | nil => intro p h; have : p = [] := by simpa [partsL] using h
           subst this; exact Nat.le_refl _
  | cons x l ih =>
    intro p h
    have e1 : partsL (x :: l) c = if x = c then [] :: partsL l c else match partsL l c with
      | [] => [[x]]
      | p :: ps => (x :: p) :: ps := rfl
    rw [e1] at h
    by_cases hx : x = c
    · rw [if_pos hx] at h
      rcases List.mem_cons.1 h with rfl | h
      · simp
      · have := ih h; simp; omega
    · rw [if_neg hx] at h
      cases hp : partsL l c with
      | nil => exact absurd hp (partsL_ne l c)
      | cons q qs =>
        rw [hp] at h
        dsimp only at h
        rcases List.mem_cons.1 h with rfl | h
        · have := ih (p := q) (by rw [hp]; exact List.mem_cons_self ..); simp; omega
        · have := ih (p := p) (by rw [hp]; exact List.mem_cons_of_mem _ h); simp; omega

set_option maxHeartbeats 3200000 in
theorem spec_host (s : ByteArray) (w : World) (hs : s.size ≤ 1048576) :
    Calls Tryz.prog 72 #[.string s] w fun e w' => e = .returned (.tuple #[.string (hostR s.data.toList).1, .bool (hostR s.data.toList).2]) ∧ Below w.heap.size w w' := by
  have hL := fun W => spec_lower s W hs
  have hlen : (lowL s.data.toList).length = s.size := by rw [low_len, size_len]
  have hR : hostR s.data.toList = if hostB (stripL (lowL s.data.toList)) = true then (⟨(stripL (lowL s.data.toList)).toArray⟩, true) else (⟨#[]⟩, false) := rfl
  generalize lowL s.data.toList = t at *
  unfold strV at hL
  have hstrip : stripL t = if 3 < s.size ∧ t.drop (s.size - 3) = [58, 56, 48] then t.take (s.size - 3) else t := by unfold stripL; rw [hlen]
  have hts : (ByteArray.mk t.toArray).size = s.size := by rw [size_len]; simpa using hlen
  have hdr : (ByteArray.mk t.toArray).extract (s.size - 3) s.size = ⟨(t.drop (s.size - 3)).toArray⟩ := by
    have := ext_drop (ByteArray.mk t.toArray) (s.size - 3)
    rw [hts] at this
    rw [this]
  have htk : (ByteArray.mk t.toArray).extract 0 (s.size - 3) = ⟨(t.take (s.size - 3)).toArray⟩ := by
    rw [ext_take]
  obtain ⟨X, hX⟩ : ∃ X : ByteArray, X = ⟨(stripL t).toArray⟩ := ⟨_, rfl⟩
  have hXl : X.data.toList = stripL t := by rw [hX]
  have HX := Lib.hid hX; have HXl := Lib.hid hXl
  have hXs : X.size ≤ 1048576 := by
    rw [size_len, hXl, hstrip]
    split
    · rw [List.length_take]; omega
    · omega
  by_cases h3 : 3 < s.size
  · by_cases hd : t.drop (s.size - 3) = [58, 56, 48]
    · rw [if_pos ⟨h3, hd⟩] at hstrip
      have hy : (ByteArray.mk t.toArray).extract 0 (s.size - 3) = X := by rw [htk, hX, hstrip]
      have he : (((ByteArray.mk t.toArray).extract (s.size - 3) s.size).toList == [58, 56, 48]) = true := by rw [hdr, Lib.toList_data]; simp [hd]
      have i1 : (3 : Int) < (s.size : Int) := by omega
      clear hdr htk hd hstrip
      generalize (ByteArray.mk t.toArray) = T at *
      have HY := Lib.hid hy; clear hy
      clear hX hXl
      go_enter Tryz.func72, Tryz.ntmps72
      go_wp2_with fail
      refine (hL _).mono ?_
      rintro e w1 ⟨rfl, hb1⟩
      go_wp2_with fail
      rw [HY.out]
      refine (spec_parts X 46 _ hXs).mono ?_
      rintro e w2 ⟨v, rfl, ho, hb2⟩

      have hSl : (stripL t).length = X.size := by rw [size_len, HXl.out]
      have ho' := ho
      rw [HXl.out] at ho
      have hne := partsL_ne (stripL t) 46
      have hpos : 0 < (partsL (stripL t) 46).length := by
        cases hp : partsL (stripL t) 46 with
        | nil => exact absurd hp hne
        | cons => simp
      obtain ⟨g, cap, rfl⟩ := own_form ho hpos
      have hplen := partsL_len (stripL t) 46
      have hcell : ∀ j p, (partsL (stripL t) 46)[j]? = some p → w2.cell? ⟨g, j, none⟩ = some (.string ⟨p.toArray⟩) := fun j p hj => own_cell ho (by rw [List.getElem?_map, hj]; rfl)
      have hgl := (ho.lt g rfl).2
      have hplB : ∀ p ∈ partsL (stripL t) 46, p.length ≤ (stripL t).length := fun p hp => parts_le hp
      have HCell := Lib.hid hcell; have HPl := Lib.hid hplB
      have hbel := hb1.trans (hb2.mono hb1.size)
      have HBel := Lib.hid hbel
      have hhb : hostB (stripL t) = (decide ((stripL t).length ≤ 20) && (partsL (stripL t) 46).all tokB) := rfl
      have HH := Lib.hid hhb
      clear ho ho' hcell hplB hne hb1 hb2 hbel hhb hL
      generalize hPs : partsL (stripL t) 46 = Ps at *
      have HPs := Lib.hid hPs
      clear hPs
      by_cases h20 : X.size ≤ 20
      · go_wp2_with fail
        go_loopw [6] (fun i wr => ∃ k : Nat, k ≤ Ps.length ∧ i = .int .i64 k ∧ (Ps.take k).all tokB = true ∧ wr = w2) (fun i _ => Ps.length - (intOf i).toNat)
        case atStart => exact ⟨0, Nat.zero_le _, rfl, by simp, rfl⟩
        case round =>
          obtain ⟨k, hk, rfl, hall, rfl⟩ := hrel
          by_cases hlt : k < Ps.length
          · have hgk : Ps[k]? = some Ps[k] := List.getElem?_eq_getElem hlt
            have c0 := HCell.out k _ hgk
            have hpk := HPl.out Ps[k] (List.getElem_mem hlt)
            have htk : Ps.take (k + 1) = Ps.take k ++ [Ps[k]] := by rw [List.take_add_one, hgk]; rfl
            have hmem : Ps[k] ∈ Ps := List.getElem_mem hlt
            generalize Ps[k] = p at *
            have hT := fun W => spec_tok ⟨p.toArray⟩ W (by unfold maxLen; rw [size_len]; simp only; omega)
            have hpl : (ByteArray.mk p.toArray).data.toList = p := by simp
            rw [hpl] at hT
            have HTk := Lib.hid htk
            clear htk hpl hgk
            cases htp : tokB p
            · rw [htp] at hT
              have hf : hostB (stripL t) = false := by
                rw [HH.out]
                have : Ps.all tokB = false := by
                  rw [Bool.eq_false_iff]; intro h
                  rw [List.all_eq_true] at h
                  rw [h p hmem] at htp; cases htp
                rw [this, Bool.and_false]
              rw [hf] at hR
              have HF := Lib.hid hR
              clear hf htp hmem hR
              go_wp2_with fail
              refine (hT _).mono ?_
              rintro e w3 ⟨rfl, rfl⟩
              go_wp2
              go_ret2
              rw [HF.out]
              exact ⟨rfl, HBel.out⟩
            · rw [htp] at hT
              have hall' : (Ps.take (k + 1)).all tokB = true := by rw [HTk.out, List.all_append, hall]; simp [htp]
              have HA := Lib.hid hall'
              clear hall' htp hmem hall
              go_wp2_with fail
              refine (hT _).mono ?_
              rintro e w3 ⟨rfl, rfl⟩
              go_wp2
              go_roundw
              case rel => exact ⟨k + 1, by omega, by go_num, HA.out, trivial⟩
              case measure => simp [intOf]; omega
          · have hkn : k = Ps.length := by omega
            subst hkn
            rw [List.take_of_length_le (Nat.le_refl _)] at hall
            have hf : hostB (stripL t) = true := by
              rw [HH.out, hall, Bool.and_true, decide_eq_true_eq, ← HXl.out, ← size_len]; exact h20
            rw [hf, if_pos rfl, ← HX.out] at hR
            have HF := Lib.hid hR
            clear hf hR hall
            go_wp2
            go_ret2
            rw [HF.out]
            exact ⟨rfl, HBel.out⟩
      · have hf : hostB (stripL t) = false := by
          rw [HH.out, decide_eq_false (by rw [← HXl.out, ← size_len]; exact h20), Bool.false_and]
        rw [hf] at hR
        have HF := Lib.hid hR
        clear hf hR
        go_wp2
        go_ret2
        rw [HF.out]
        exact ⟨rfl, HBel.out⟩
    · rw [if_neg (fun h => hd h.2)] at hstrip
      have hy : X = (ByteArray.mk t.toArray) := by rw [hX, hstrip]
      have he : (((ByteArray.mk t.toArray).extract (s.size - 3) s.size).toList == [58, 56, 48]) = false := by rw [hdr, Lib.toList_data]; simpa using hd
      have i1 : (3 : Int) < (s.size : Int) := by omega
      clear hdr htk hd hstrip
      generalize (ByteArray.mk t.toArray) = T at *
      subst hy
      clear hX hXl
      go_enter Tryz.func72, Tryz.ntmps72
      go_wp2_with fail
      refine (hL _).mono ?_
      rintro e w1 ⟨rfl, hb1⟩
      go_wp2_with fail
      refine (spec_parts X 46 _ hXs).mono ?_
      rintro e w2 ⟨v, rfl, ho, hb2⟩

      have hSl : (stripL t).length = X.size := by rw [size_len, HXl.out]
      have ho' := ho
      rw [HXl.out] at ho
      have hne := partsL_ne (stripL t) 46
      have hpos : 0 < (partsL (stripL t) 46).length := by
        cases hp : partsL (stripL t) 46 with
        | nil => exact absurd hp hne
        | cons => simp
      obtain ⟨g, cap, rfl⟩ := own_form ho hpos
      have hplen := partsL_len (stripL t) 46
      have hcell : ∀ j p, (partsL (stripL t) 46)[j]? = some p → w2.cell? ⟨g, j, none⟩ = some (.string ⟨p.toArray⟩) := fun j p hj => own_cell ho (by rw [List.getElem?_map, hj]; rfl)
      have hgl := (ho.lt g rfl).2
      have hplB : ∀ p ∈ partsL (stripL t) 46, p.length ≤ (stripL t).length := fun p hp => parts_le hp
      have HCell := Lib.hid hcell; have HPl := Lib.hid hplB
      have hbel := hb1.trans (hb2.mono hb1.size)
      have HBel := Lib.hid hbel
      have hhb : hostB (stripL t) = (decide ((stripL t).length ≤ 20) && (partsL (stripL t) 46).all tokB) := rfl
      have HH := Lib.hid hhb
      clear ho ho' hcell hplB hne hb1 hb2 hbel hhb hL
      generalize hPs : partsL (stripL t) 46 = Ps at *
      have HPs := Lib.hid hPs
      clear hPs
      by_cases h20 : X.size ≤ 20
      · go_wp2_with fail
        go_loopw [6] (fun i wr => ∃ k : Nat, k ≤ Ps.length ∧ i = .int .i64 k ∧ (Ps.take k).all tokB = true ∧ wr = w2) (fun i _ => Ps.length - (intOf i).toNat)
        case atStart => exact ⟨0, Nat.zero_le _, rfl, by simp, rfl⟩
        case round =>
          obtain ⟨k, hk, rfl, hall, rfl⟩ := hrel
          by_cases hlt : k < Ps.length
          · have hgk : Ps[k]? = some Ps[k] := List.getElem?_eq_getElem hlt
            have c0 := HCell.out k _ hgk
            have hpk := HPl.out Ps[k] (List.getElem_mem hlt)
            have htk : Ps.take (k + 1) = Ps.take k ++ [Ps[k]] := by rw [List.take_add_one, hgk]; rfl
            have hmem : Ps[k] ∈ Ps := List.getElem_mem hlt
            generalize Ps[k] = p at *
            have hT := fun W => spec_tok ⟨p.toArray⟩ W (by unfold maxLen; rw [size_len]; simp only; omega)
            have hpl : (ByteArray.mk p.toArray).data.toList = p := by simp
            rw [hpl] at hT
            have HTk := Lib.hid htk
            clear htk hpl hgk
            cases htp : tokB p
            · rw [htp] at hT
              have hf : hostB (stripL t) = false := by
                rw [HH.out]
                have : Ps.all tokB = false := by
                  rw [Bool.eq_false_iff]; intro h
                  rw [List.all_eq_true] at h
                  rw [h p hmem] at htp; cases htp
                rw [this, Bool.and_false]
              rw [hf] at hR
              have HF := Lib.hid hR
              clear hf htp hmem hR
              go_wp2_with fail
              refine (hT _).mono ?_
              rintro e w3 ⟨rfl, rfl⟩
              go_wp2
              go_ret2
              rw [HF.out]
              exact ⟨rfl, HBel.out⟩
            · rw [htp] at hT
              have hall' : (Ps.take (k + 1)).all tokB = true := by rw [HTk.out, List.all_append, hall]; simp [htp]
              have HA := Lib.hid hall'
              clear hall' htp hmem hall
              go_wp2_with fail
              refine (hT _).mono ?_
              rintro e w3 ⟨rfl, rfl⟩
              go_wp2
              go_roundw
              case rel => exact ⟨k + 1, by omega, by go_num, HA.out, trivial⟩
              case measure => simp [intOf]; omega
          · have hkn : k = Ps.length := by omega
            subst hkn
            rw [List.take_of_length_le (Nat.le_refl _)] at hall
            have hf : hostB (stripL t) = true := by
              rw [HH.out, hall, Bool.and_true, decide_eq_true_eq, ← HXl.out, ← size_len]; exact h20
            rw [hf, if_pos rfl, ← HX.out] at hR
            have HF := Lib.hid hR
            clear hf hR hall
            go_wp2
            go_ret2
            rw [HF.out]
            exact ⟨rfl, HBel.out⟩
      · have hf : hostB (stripL t) = false := by
          rw [HH.out, decide_eq_false (by rw [← HXl.out, ← size_len]; exact h20), Bool.false_and]
        rw [hf] at hR
        have HF := Lib.hid hR
        clear hf hR
        go_wp2
        go_ret2
        rw [HF.out]
        exact ⟨rfl, HBel.out⟩
  · rw [if_neg (fun h => h3 h.1)] at hstrip
    have hy : X = (ByteArray.mk t.toArray) := by rw [hX, hstrip]
    have i1 : ¬ (3 : Int) < (s.size : Int) := by omega
    clear hdr htk hstrip
    generalize (ByteArray.mk t.toArray) = T at *
    subst hy
    clear hX hXl
    go_enter Tryz.func72, Tryz.ntmps72
    go_wp2_with fail
    refine (hL _).mono ?_
    rintro e w1 ⟨rfl, hb1⟩
    go_wp2_with fail
    refine (spec_parts X 46 _ hXs).mono ?_
    rintro e w2 ⟨v, rfl, ho, hb2⟩

    have hSl : (stripL t).length = X.size := by rw [size_len, HXl.out]
    have ho' := ho
    rw [HXl.out] at ho
    have hne := partsL_ne (stripL t) 46
    have hpos : 0 < (partsL (stripL t) 46).length := by
      cases hp : partsL (stripL t) 46 with
      | nil => exact absurd hp hne
      | cons => simp
    obtain ⟨g, cap, rfl⟩ := own_form ho hpos
    have hplen := partsL_len (stripL t) 46
    have hcell : ∀ j p, (partsL (stripL t) 46)[j]? = some p → w2.cell? ⟨g, j, none⟩ = some (.string ⟨p.toArray⟩) := fun j p hj => own_cell ho (by rw [List.getElem?_map, hj]; rfl)
    have hgl := (ho.lt g rfl).2
    have hplB : ∀ p ∈ partsL (stripL t) 46, p.length ≤ (stripL t).length := fun p hp => parts_le hp
    have HCell := Lib.hid hcell; have HPl := Lib.hid hplB
    have hbel := hb1.trans (hb2.mono hb1.size)
    have HBel := Lib.hid hbel
    have hhb : hostB (stripL t) = (decide ((stripL t).length ≤ 20) && (partsL (stripL t) 46).all tokB) := rfl
    have HH := Lib.hid hhb
    clear ho ho' hcell hplB hne hb1 hb2 hbel hhb hL
    generalize hPs : partsL (stripL t) 46 = Ps at *
    have HPs := Lib.hid hPs
    clear hPs
    by_cases h20 : X.size ≤ 20
    · go_wp2_with fail
      go_loopw [6] (fun i wr => ∃ k : Nat, k ≤ Ps.length ∧ i = .int .i64 k ∧ (Ps.take k).all tokB = true ∧ wr = w2) (fun i _ => Ps.length - (intOf i).toNat)
      case atStart => exact ⟨0, Nat.zero_le _, rfl, by simp, rfl⟩
      case round =>
        obtain ⟨k, hk, rfl, hall, rfl⟩ := hrel
        by_cases hlt : k < Ps.length
        · have hgk : Ps[k]? = some Ps[k] := List.getElem?_eq_getElem hlt
          have c0 := HCell.out k _ hgk
          have hpk := HPl.out Ps[k] (List.getElem_mem hlt)
          have htk : Ps.take (k + 1) = Ps.take k ++ [Ps[k]] := by rw [List.take_add_one, hgk]; rfl
          have hmem : Ps[k] ∈ Ps := List.getElem_mem hlt
          generalize Ps[k] = p at *
          have hT := fun W => spec_tok ⟨p.toArray⟩ W (by unfold maxLen; rw [size_len]; simp only; omega)
          have hpl : (ByteArray.mk p.toArray).data.toList = p := by simp
          rw [hpl] at hT
          have HTk := Lib.hid htk
          clear htk hpl hgk
          cases htp : tokB p
          · rw [htp] at hT
            have hf : hostB (stripL t) = false := by
              rw [HH.out]
              have : Ps.all tokB = false := by
                rw [Bool.eq_false_iff]; intro h
                rw [List.all_eq_true] at h
                rw [h p hmem] at htp; cases htp
              rw [this, Bool.and_false]
            rw [hf] at hR
            have HF := Lib.hid hR
            clear hf htp hmem hR
            go_wp2_with fail
            refine (hT _).mono ?_
            rintro e w3 ⟨rfl, rfl⟩
            go_wp2
            go_ret2
            rw [HF.out]
            exact ⟨rfl, HBel.out⟩
          · rw [htp] at hT
            have hall' : (Ps.take (k + 1)).all tokB = true := by rw [HTk.out, List.all_append, hall]; simp [htp]
            have HA := Lib.hid hall'
            clear hall' htp hmem hall
            go_wp2_with fail
            refine (hT _).mono ?_
            rintro e w3 ⟨rfl, rfl⟩
            go_wp2
            go_roundw
            case rel => exact ⟨k + 1, by omega, by go_num, HA.out, trivial⟩
            case measure => simp [intOf]; omega
        · have hkn : k = Ps.length := by omega
          subst hkn
          rw [List.take_of_length_le (Nat.le_refl _)] at hall
          have hf : hostB (stripL t) = true := by
            rw [HH.out, hall, Bool.and_true, decide_eq_true_eq, ← HXl.out, ← size_len]; exact h20
          rw [hf, if_pos rfl, ← HX.out] at hR
          have HF := Lib.hid hR
          clear hf hR hall
          go_wp2
          go_ret2
          rw [HF.out]
          exact ⟨rfl, HBel.out⟩
    · exact absurd (by omega) h20
end Go.Proofs.YtbhnjnoblkfckaaGreatDoor

-- from XHstI
/- Walks: hosts, by the program. -/
namespace Go.Proofs.YtbhnjnoblkfckaaGreatDoor
open Go.RowKit

/-- Without ':80' at the end. -/
def trimP (l : List UInt8) : List UInt8 := Lib.trimSuffix l [58, 56, 48]
theorem trim_host (l : List UInt8) : hostR l = if hostB (trimP (lowL l)) = true then (⟨(trimP (lowL l)).toArray⟩, true) else (⟨#[]⟩, false) := by
  have key : ∀ t : List UInt8, (hostB (stripL t) = true → trimP t = stripL t) ∧ (hostB (stripL t) = false → hostB (trimP t) = false) := by
    intro t
    unfold trimP Lib.trimSuffix
    rw [← Lib.hasSuffix_of_drop]
    simp only [List.length_cons, List.length_nil, Nat.zero_add, Nat.reduceAdd]
    unfold stripL
    by_cases h3 : 3 < t.length
    · by_cases hd : t.drop (t.length - 3) = [58, 56, 48]
      · rw [if_pos ⟨h3, hd⟩, hd]
        have : (decide (3 ≤ t.length) && ([58, 56, 48] : List UInt8) == [58, 56, 48]) = true := by simp; omega
        rw [if_pos this]
        exact ⟨fun _ => rfl, fun h => h⟩
      · rw [if_neg (fun h => hd h.2)]
        have : (decide (3 ≤ t.length) && (t.drop (t.length - 3)) == [58, 56, 48]) = false := by
          rw [Bool.and_eq_false_iff]; right; simpa using hd
        rw [if_neg (by rw [this]; decide)]
        exact ⟨fun _ => rfl, fun h => h⟩
    · rw [if_neg (fun h => h3 h.1)]
      by_cases hs : (decide (3 ≤ t.length) && (t.drop (t.length - 3)) == [58, 56, 48]) = true
      · rw [if_pos hs]
        rw [Bool.and_eq_true, decide_eq_true_eq, beq_iff_eq] at hs
        have hl : t.length = 3 := by omega
        have ht : t = [58, 56, 48] := by
          have := hs.2
          rw [hl] at this
          simpa using this
        subst ht
        refine ⟨fun h => absurd h (by decide), fun _ => by decide⟩
      · rw [if_neg hs]
        exact ⟨fun _ => rfl, fun h => h⟩
  unfold hostR hostC
  obtain ⟨k1, k2⟩ := key (lowL l)
  cases hb : hostB (stripL (lowL l))
  · rw [k2 hb]; rfl
  · rw [k1 hb, hb]

set_option maxHeartbeats 1600000 in
theorem impl_host (s : ByteArray) (w : World) (hs : s.size ≤ 1048576) (hcls : Cls w) :
    Calls Tryz.prog 99 #[.string s] w fun e w' => e = .returned (.tuple #[.string (hostR s.data.toList).1, .bool (hostR s.data.toList).2]) ∧ Below w.heap.size w w' := by
  have hL := fun W hW => impl_lower s W (by unfold maxLen; omega) hW
  have hlen : (lowL s.data.toList).length = s.size := by rw [low_len, size_len]
  have hR := trim_host s.data.toList
  generalize lowL s.data.toList = t at *
  unfold strV at hL
  have hts : (ByteArray.mk t.toArray).size = s.size := by rw [size_len]; simpa using hlen
  have htl : (ByteArray.mk t.toArray).data.toList = t := by simp
  have hT := fun W => Tryz.strings_TrimSuffix ⟨t.toArray⟩ ⟨#[58, 56, 48]⟩ W (by rw [hts]; omega)
  rw [htl] at hT
  have hple : (trimP t).length ≤ s.size := by rw [← hlen]; exact Lib.trimSuffix_le _ _
  have hT' : ∀ W, Calls Tryz.prog 116 #[.string ⟨t.toArray⟩, .string ⟨#[58, 56, 48]⟩] W fun e w' => e = .returned (.string ⟨(trimP t).toArray⟩) ∧ w' = W := hT
  clear hT htl
  generalize trimP t = p at *
  have hXl : (ByteArray.mk p.toArray).data.toList = p := by simp
  have hXs : (ByteArray.mk p.toArray).size = p.length := by rw [size_len]
  generalize hX : (ByteArray.mk p.toArray) = X at *
  have hPar := fun W => impl_parts X 46 W (by omega)
  rw [hXl] at hPar
  have HXl := Lib.hid hXl; clear hXl hX
  have HR := Lib.hid hR; clear hR
  generalize (ByteArray.mk t.toArray) = T at *
  go_enter Tryz.func99, Tryz.ntmps99
  go_wp2_with fail
  refine (hL _ hcls).mono ?_
  rintro e w1 ⟨rfl, hb1⟩
  go_wp2_with fail
  refine (hT' _).mono ?_
  rintro e w2 ⟨rfl, rfl⟩
  clear hT' hL
  by_cases h20 : X.size ≤ 20
  · go_wp2_with fail
    refine (hPar _).mono ?_
    rintro e w2 ⟨v, rfl, ho, hb2⟩
    have hne := partsL_ne p 46
    have hpos : 0 < (partsL p 46).length := by
      cases hp : partsL p 46 with
      | nil => exact absurd hp hne
      | cons => simp
    obtain ⟨g, cap, rfl⟩ := own_form ho hpos
    have hplen := partsL_len p 46
    have hcell : ∀ j x, (partsL p 46)[j]? = some x → w2.cell? ⟨g, j, none⟩ = some (.string ⟨x.toArray⟩) := fun j x hj => own_cell ho (by rw [List.getElem?_map, hj]; rfl)
    have hgl := (ho.lt g rfl).2
    have hplB : ∀ x ∈ partsL p 46, x.length ≤ p.length := fun x hp => parts_le hp
    have HCell := Lib.hid hcell; have HPl := Lib.hid hplB
    have hbel := hb1.trans (hb2.mono hb1.size)
    have HBel := Lib.hid hbel
    have hhb : hostB p = (decide (p.length ≤ 20) && (partsL p 46).all tokB) := rfl
    have HH := Lib.hid hhb
    have hcls2 := (hcls.below hb1 (Nat.le_refl _)).below hb2 (Nat.le_refl _)
    clear ho hcell hplB hne hb1 hb2 hbel hhb hPar hcls
    generalize hPs : partsL p 46 = Ps at *
    have HPs := Lib.hid hPs
    clear hPs
    go_wp2_with fail
    go_loopw [16] (fun i wr => ∃ k : Nat, k ≤ Ps.length ∧ i = .int .i64 k ∧ (Ps.take k).all tokB = true ∧ wr = w2) (fun i _ => Ps.length - (intOf i).toNat)
    case atStart => exact ⟨0, Nat.zero_le _, rfl, by simp, rfl⟩
    case round =>
      obtain ⟨k, hk, rfl, hall, rfl⟩ := hrel
      by_cases hlt : k < Ps.length
      · have hgk : Ps[k]? = some Ps[k] := List.getElem?_eq_getElem hlt
        have c0 := HCell.out k _ hgk
        have hpk := HPl.out Ps[k] (List.getElem_mem hlt)
        have htk : Ps.take (k + 1) = Ps.take k ++ [Ps[k]] := by rw [List.take_add_one, hgk]; rfl
        have hmem : Ps[k] ∈ Ps := List.getElem_mem hlt
        generalize Ps[k] = q at *
        have hT := fun W hW => impl_tok ⟨q.toArray⟩ W (by unfold maxLen; rw [size_len]; simp only; omega) hW
        have hpl : (ByteArray.mk q.toArray).data.toList = q := by simp
        rw [hpl] at hT
        have HTk := Lib.hid htk
        clear htk hpl hgk
        cases htp : tokB q
        · rw [htp] at hT
          have hf : hostB p = false := by
            rw [HH.out]
            have : Ps.all tokB = false := by
              rw [Bool.eq_false_iff]; intro h
              rw [List.all_eq_true] at h
              rw [h q hmem] at htp; cases htp
            rw [this, Bool.and_false]
          have hr := HR.out
          rw [hf] at hr
          have HF := Lib.hid hr
          clear hf htp hmem hr
          go_wp2_with fail
          refine (hT _ hcls2).mono ?_
          rintro e w3 ⟨rfl, rfl⟩
          go_wp2
          go_ret2
          rw [HF.out]
          exact ⟨rfl, HBel.out⟩
        · rw [htp] at hT
          have hall' : (Ps.take (k + 1)).all tokB = true := by rw [HTk.out, List.all_append, hall]; simp [htp]
          have HA := Lib.hid hall'
          clear hall' htp hmem hall
          go_wp2_with fail
          refine (hT _ hcls2).mono ?_
          rintro e w3 ⟨rfl, rfl⟩
          go_wp2
          go_roundw
          case rel => exact ⟨k + 1, by omega, by go_num, HA.out, trivial⟩
          case measure => simp [intOf]; omega
      · have hkn : k = Ps.length := by omega
        subst hkn
        rw [List.take_of_length_le (Nat.le_refl _)] at hall
        have hf : hostB p = true := by
          rw [HH.out, hall, Bool.and_true, decide_eq_true_eq, ← hXs]; exact h20
        have hr := HR.out
        rw [hf, if_pos rfl] at hr
        have HF := Lib.hid hr
        clear hf hr hall
        go_wp2
        go_ret2
        rw [HF.out]
        exact ⟨rfl, HBel.out⟩
  · have hf : hostB p = false := by unfold hostB; rw [decide_eq_false (by rw [← hXs]; exact h20), Bool.false_and]
    have hr := HR.out
    rw [hf] at hr
    have HF := Lib.hid hr
    have HB := Lib.hid hb1
    clear hf hr hb1
    go_wp2
    go_ret2
    rw [HF.out]
    exact ⟨rfl, HB.out⟩
end Go.Proofs.YtbhnjnoblkfckaaGreatDoor

-- from XHok
/- Walks: whether a host is in its plainest form, by the program. -/
namespace Go.Proofs.YtbhnjnoblkfckaaGreatDoor
open Go.RowKit

theorem host_ps (t : ByteArray) : ∃ (T : ByteArray) (ok : Bool), hostR t.data.toList = (T, ok) ∧ ((ok = true ∧ T = t) ↔ hostB t.data.toList = true) := by
  obtain ⟨T, ok, hr⟩ : ∃ T ok, hostR t.data.toList = (T, ok) := ⟨_, _, rfl⟩
  refine ⟨T, ok, hr, ?_⟩
  constructor
  · rintro ⟨rfl, rfl⟩; exact (hostR_yes hr).1
  · intro h
    rw [host_again h] at hr
    obtain ⟨h1, h2⟩ := Prod.mk.inj hr
    exact ⟨h2.symm, by rw [← h1]⟩
theorem strh_same (a : ByteArray) : (a.toList == a.toList) = true := by simp
theorem strh_ne {a b : ByteArray} (h : a ≠ b) : (a.toList == b.toList) = false := by
  rw [Lib.toList_data, Lib.toList_data]
  simp only [beq_eq_false_iff_ne, ne_eq]
  intro e
  exact h (ByteArray.ext (Array.toList_inj.1 e))

set_option maxHeartbeats 800000 in
theorem impl_hok (t : ByteArray) (w : World) (ht : t.size ≤ 1048576) (hcls : Cls w) :
    Calls Tryz.prog 74 #[.string t] w fun e w' => e = .returned (.bool (hostB t.data.toList)) ∧ Below w.heap.size w w' := by
  have hU := fun W hW => impl_host t W (by omega) hW
  obtain ⟨T, okT, hT, hTT⟩ := host_ps t
  rw [hT] at hU
  dsimp only at hU
  have hdef : hostB t.data.toList = (okT && decide (T = t)) := by rw [Bool.eq_iff_iff]; simpa using hTT.symm
  rw [hdef]
  clear hdef hTT hT
  go_enter Tryz.func74, Tryz.ntmps74
  go_wp2_with fail
  refine (hU _ hcls).mono ?_
  rintro e w1 ⟨rfl, hb1⟩
  have HB := Lib.hid hb1
  clear hb1 hU hcls
  cases okT
  · go_wp2
    go_ret
    exact ⟨rfl, HB.out⟩
  · by_cases e1 : T = t
    · subst e1
      have se := strh_same T
      go_wp2
      go_ret
      exact ⟨by simp, HB.out⟩
    · have se := strh_ne e1
      have E := Lib.hid e1
      clear e1
      go_wp2
      go_ret
      exact ⟨by simp [E.out], HB.out⟩
end Go.Proofs.YtbhnjnoblkfckaaGreatDoor

-- from XCfgS
/- Walks: houses, by the specification. -/
namespace Go.Proofs.YtbhnjnoblkfckaaGreatDoor
open Go.RowKit

set_option maxHeartbeats 400000 in
theorem l1_inI (n lo hi : Int) (w : World) :
    Calls Tryz.prog 71 #[.int .i64 n, .int .i64 lo, .int .i64 hi] w fun e w' => e = .returned (.bool (inI n lo hi)) ∧ w = w' := by
  unfold inI
  by_cases h1 : lo ≤ n
  · by_cases h2 : n ≤ hi
    all_goals
      go_enter Tryz.func71, Tryz.ntmps71
      go_wp2
      go_ret
      exact ⟨by simp [h1, h2], rfl⟩
  · go_enter Tryz.func71, Tryz.ntmps71
    go_wp2
    go_ret
    exact ⟨by simp; omega, rfl⟩

theorem hasL_take {L : List ByteArray} {k : Nat} {x s : ByteArray} (hk : L[k]? = some x) (h : hasL (L.take k) s = false) (e : x ≠ s) : hasL (L.take (k + 1)) s = false := by
  rw [List.take_add_one, hk]
  unfold hasL at *
  rw [List.any_append, h]
  simp [e]

end Go.Proofs.YtbhnjnoblkfckaaGreatDoor

-- from XCfgS2
/- Walks: a house, by the specification. -/
namespace Go.Proofs.YtbhnjnoblkfckaaGreatDoor
open Go.RowKit

theorem four_facts {w' : World} {g : Nat} {x0 x1 x2 x3 : Value} {T : TypeId} (h : w'.heap[g]? = some (.cells #[x0, x1, x2, x3] T (0, 0))) :
    w'.cell? ⟨g, 0, none⟩ = some x0 ∧ w'.cell? ⟨g, 1, none⟩ = some x1 ∧ w'.cell? ⟨g, 2, none⟩ = some x2 ∧ w'.cell? ⟨g, 3, none⟩ = some x3 ∧
    w'.frozen? ⟨g, 0, none⟩ = false ∧ w'.frozen? ⟨g, 1, none⟩ = false ∧ w'.frozen? ⟨g, 2, none⟩ = false ∧ w'.frozen? ⟨g, 3, none⟩ = false := by
  refine ⟨?_, ?_, ?_, ?_, ?_, ?_, ?_, ?_⟩ <;> simp [World.cell?, World.frozen?, h]
theorem one_fact {w' : World} {g : Nat} {x0 : Value} {T : TypeId} (h : w'.heap[g]? = some (.cells #[x0] T (0, 0))) :
    w'.cell? ⟨g, 0, none⟩ = some x0 ∧ w'.frozen? ⟨g, 0, none⟩ = false := by
  refine ⟨?_, ?_⟩ <;> simp [World.cell?, World.frozen?, h]
theorem host_at (s : ByteArray) : ∃ (T : ByteArray) (ok : Bool), hostR s.data.toList = (T, ok) ∧ ((ok = true ∧ T = s) ↔ hostB s.data.toList = true) := host_ps s
theorem house_split (h : Hs) : houseB h = (inI h.names.length 1 3 && (inI h.key 1 9999 && (inI h.maxN 1 6 && (inI h.maxB 1 120 && namesB h.names)))) := rfl
theorem namesB_false {L : List ByteArray} {k : Nat} {x : ByteArray} (hk : L[k]? = some x) (h : hostB x.data.toList = false) : namesB L = false := by
  rw [Bool.eq_false_iff]; intro e
  unfold namesB at e
  rw [List.all_eq_true] at e
  rw [e x (List.mem_of_getElem? hk)] at h; cases h
theorem namesB_take {L : List ByteArray} {k : Nat} {x : ByteArray} (hk : L[k]? = some x) (h : namesB (L.take k) = true) (hx : hostB x.data.toList = true) : namesB (L.take (k + 1)) = true := by
  rw [List.take_add_one, hk]
  unfold namesB at *
  rw [List.all_append, h]
  simp [hx]

set_option maxRecDepth 100000 in
set_option maxHeartbeats 3200000 in
theorem l5_house (h : Hs) (u : Value) (w : World) (hS : NRow w u h.names) (hN : NOk h.names 1048576) :
    Calls Tryz.prog 38 #[.agg #[u, .int .i64 h.key, .int .i64 h.maxN, .int .i64 h.maxB]] w fun e w' => e = .returned (.bool (houseB h)) ∧ Below w.heap.size w w' := by
  have hsp := house_split h
  generalize houseB h = R at *
  obtain ⟨wA, hwA⟩ : ∃ wA, wA = w.alloc (.cells #[u, .int .i64 h.key, .int .i64 h.maxN, .int .i64 h.maxB] 31) := ⟨_, rfl⟩
  have hsA : wA.heap.size = w.heap.size + 1 := by rw [hwA]; simp
  have hbA : Below w.heap.size w wA := by rw [hwA]; exact (Below.refl _ _).alloc (Nat.le_refl _) _
  have hcell : ∀ W, Below (w.heap.size + 1) wA W → W.heap[w.heap.size]? = some (.cells #[u, .int .i64 h.key, .int .i64 h.maxN, .int .i64 h.maxB] 31 (0, 0)) := fun W hW =>
    (hW.block w.heap.size (by omega)).trans (by rw [hwA]; exact heap_alloc_new w _)
  have HCell := Lib.hid hcell
  obtain ⟨a, c, rfl, hl1, hl2, h3⟩ := hS
  have h4 : ∀ W, Below (w.heap.size + 1) wA W → Below w.heap.size w W ∧ ∀ j s, h.names[j]? = some s → ∃ b o, a = some ⟨b, o, none⟩ ∧ W.cell? ⟨b, o + j, none⟩ = some (.string s) := fun W hW => by
    have hb := hbA.trans (hW.mono (Nat.le_succ _))
    refine ⟨hb, fun j s hj => ?_⟩
    obtain ⟨b, o, e, hlt, c1⟩ := h3 j s hj
    exact ⟨b, o, e, (hb.cell (p := ⟨b, o + j, none⟩) hlt).trans c1⟩
  have HW := Lib.hid h4
  have HN := Lib.hid hN
  have HwA := Lib.hid hwA
  have HS := Lib.hid hsp
  unfold maxLen at hl2
  have hb0 : Below (w.heap.size + 1) wA wA := Below.refl _ _
  obtain ⟨t0, t1, t2, t3, _⟩ := four_facts (hcell _ hb0)
  rw [hwA] at t0 t1 t2 t3
  have HB0 := Lib.hid (h4 _ hb0).1
  have hI0 := hb0
  clear hcell hwA hbA hsp h3 h4 hN hb0
  go_enter Tryz.func38, Tryz.ntmps38
  have q := fun (x lo hi : Int) W => l1_inI x lo hi W
  rcases Bool.eq_false_or_eq_true (inI h.names.length 1 3) with j1 | j1
  · rcases Bool.eq_false_or_eq_true (inI h.key 1 9999) with j2 | j2
    · rcases Bool.eq_false_or_eq_true (inI h.maxN 1 6) with j3 | j3
      · rcases Bool.eq_false_or_eq_true (inI h.maxB 1 120) with j4 | j4
        · have HF : Hid (R = namesB h.names) := Lib.hid (by rw [HS.out, j1, j2, j3, j4]; rfl)
          clear HS
          go_wp2_with (go_at_call 71; refine (q _ _ _ _).mono ?_; rintro e w' ⟨rfl, rfl⟩)
          clear j1 j2 j3 j4 t0 t1 t2 t3
          rw [← HwA.out]
          have HI := Lib.hid hI0
          clear hI0
          go_loopw [3, 4, 5] (fun i _ _ wr => ∃ k : Nat, k ≤ h.names.length ∧ i = .int .i64 k ∧ namesB (h.names.take k) = true ∧ Below (w.heap.size + 1) wA wr) (fun i _ _ _ => h.names.length - (intOf i).toNat)
          case atStart => exact ⟨0, Nat.zero_le _, rfl, rfl, HI.out⟩
          case round =>
            obtain ⟨k, hk, rfl, hall, hbr⟩ := hrel
            obtain ⟨t0, t1, t2, t3, _⟩ := four_facts (HCell.out wr hbr)
            by_cases hlt : k < h.names.length
            · obtain ⟨x, hg⟩ : ∃ x, h.names[k]? = some x := ⟨_, List.getElem?_eq_getElem hlt⟩
              obtain ⟨b, o, ea, c1⟩ := (HW.out wr hbr).2 k x hg
              subst ea
              have hC := spec_host x wr (HN.out x (List.mem_of_getElem? hg))
              obtain ⟨T, ok, hR, hiff⟩ := host_at x
              rw [hR] at hC
              have HG := Lib.hid hg
              have HA := Lib.hid hall
              have HIff := Lib.hid hiff
              have HBr := Lib.hid hbr
              clear hR hg hall hiff hbr
              go_wp2_with fail
              refine hC.mono ?_
              rintro e w2 ⟨rfl, hb2⟩
              have hb02 := HBr.out.trans (hb2.mono (by have := HBr.out.size; omega))
              clear hC hb2 t0 t1 t2 t3 c1
              obtain ⟨t0, t1, t2, t3, _⟩ := four_facts (HCell.out w2 hb02)
              obtain ⟨b2, o2, ea, c1⟩ := (HW.out w2 hb02).2 k x HG.out
              obtain ⟨rfl, rfl⟩ : b = b2 ∧ o = o2 := by simpa using ea
              have HB2 := Lib.hid (HW.out w2 hb02).1
              have HB02 := Lib.hid hb02
              clear hb02 ea
              cases ok
              · have hf : hostB x.data.toList = false := by
                  rw [Bool.eq_false_iff]; intro e; have := HIff.out.2 e; simp at this
                have HR := Lib.hid (HF.out.trans (namesB_false HG.out hf))
                clear hf
                go_wp2
                go_ret
                rw [HR.out]; exact ⟨rfl, HB2.out⟩
              · by_cases e : T = x
                · subst e
                  have se := strh_same T
                  have ht : hostB T.data.toList = true := HIff.out.1 ⟨rfl, rfl⟩
                  have HN2 := Lib.hid (namesB_take HG.out HA.out ht)
                  clear ht
                  go_wp2
                  go_roundw
                  case rel => exact ⟨k + 1, by omega, by go_num, HN2.out, HB02.out⟩
                  case measure => simp [intOf]; omega
                · have se := strh_ne e
                  have hf : hostB x.data.toList = false := by
                    rw [Bool.eq_false_iff]; intro e2; exact e (HIff.out.2 e2).2
                  have HR := Lib.hid (HF.out.trans (namesB_false HG.out hf))
                  clear hf e
                  go_wp2
                  go_ret
                  rw [HR.out]; exact ⟨rfl, HB2.out⟩
            · have hkl : k = h.names.length := by omega
              rw [hkl, List.take_length] at hall
              have HR := Lib.hid (HF.out.trans hall)
              have HB2 := Lib.hid (HW.out wr hbr).1
              clear hall hbr
              go_wp2
              go_ret
              rw [HR.out]; exact ⟨rfl, HB2.out⟩
        · have HF : Hid (R = false) := Lib.hid (by rw [HS.out, j1, j2, j3, j4]; rfl)
          clear HS
          go_wp2_with (go_at_call 71; refine (q _ _ _ _).mono ?_; rintro e w' ⟨rfl, rfl⟩)
          go_ret
          rw [HF.out, ← HwA.out]; exact ⟨rfl, HB0.out⟩
      · have HF : Hid (R = false) := Lib.hid (by rw [HS.out, j1, j2, j3]; rfl)
        clear HS
        go_wp2_with (go_at_call 71; refine (q _ _ _ _).mono ?_; rintro e w' ⟨rfl, rfl⟩)
        go_ret
        rw [HF.out, ← HwA.out]; exact ⟨rfl, HB0.out⟩
    · have HF : Hid (R = false) := Lib.hid (by rw [HS.out, j1, j2]; rfl)
      clear HS
      go_wp2_with (go_at_call 71; refine (q _ _ _ _).mono ?_; rintro e w' ⟨rfl, rfl⟩)
      go_ret
      rw [HF.out, ← HwA.out]; exact ⟨rfl, HB0.out⟩
  · have HF : Hid (R = false) := Lib.hid (by rw [HS.out, j1]; rfl)
    clear HS
    go_wp2_with (go_at_call 71; refine (q _ _ _ _).mono ?_; rintro e w' ⟨rfl, rfl⟩)
    go_ret
    rw [HF.out, ← HwA.out]; exact ⟨rfl, HB0.out⟩
end Go.Proofs.YtbhnjnoblkfckaaGreatDoor

-- from XCfgS3
/- Walks: all names of all houses, by the specification. -/
namespace Go.Proofs.YtbhnjnoblkfckaaGreatDoor
open Go.RowKit

theorem Tryz.infoStrC : (Tryz.prog.info? 9).map (fun i => (i.zero, i.size, i.bytes)) = some (some (.string ⟨#[]⟩), 1, 16) := by kernel_rfl
theorem own_lowC {w : World} {B B' : Nat} {e : TypeId} {size : Nat} {v : Value} {n : Nat} {xs : List Value} (h : w.ownsRow B e size v n xs) (hB : B' ≤ B) : w.ownsRow B' e size v n xs := by
  refine ⟨h.1, ?_⟩
  rcases h.2 with h | ⟨g, cap, cur, h, hb, rest⟩
  · exact .inl h
  · exact .inr ⟨g, cap, cur, h, Nat.le_trans hB hb, rest⟩
/-- The cells of a list of texts that has one at least. -/
theorem nrow_cells {w : World} {v : Value} {L : List ByteArray} (h : NRow w v L) (hn : 1 ≤ L.length) : ∃ b o c, v = .slice (some ⟨b, o, none⟩) L.length c ∧ L.length ≤ c ∧ c ≤ maxLen ∧ b < w.heap.size ∧
    ∀ j x, (L.map Value.string)[j]? = some x → w.cell? ((⟨b, o, none⟩ : Addr).add j) = some x := by
  obtain ⟨a, c, rfl, h1, h2, h3⟩ := h
  obtain ⟨b, o, rfl, hb, _⟩ := h3 0 L[0] (List.getElem?_eq_getElem (by omega))
  refine ⟨b, o, c, rfl, h1, h2, hb, fun j x hx => ?_⟩
  rw [List.getElem?_map] at hx
  cases hj : L[j]? with
  | none => rw [hj] at hx; cases hx
  | some s =>
    rw [hj] at hx
    obtain ⟨b', o', e, _, c1⟩ := h3 j s hj
    obtain ⟨rfl, rfl⟩ : b = b' ∧ o = o' := by simpa using e
    have ea : (⟨b, o, none⟩ : Addr).add j = ⟨b, o + j, none⟩ := by unfold Addr.add; split <;> simp_all
    rw [ea, c1]
    simpa using hx

end Go.Proofs.YtbhnjnoblkfckaaGreatDoor

-- from XCfgS4
/- Walks: whether houses are ok, by the specification. -/
namespace Go.Proofs.YtbhnjnoblkfckaaGreatDoor
open Go.RowKit

theorem cfg_short {hs : List Hs} (h : inI hs.length 1 4 = false) : cfgB hs = false := by unfold cfgB; rw [h]; rfl
theorem cfg_bad {hs : List Hs} {k : Nat} {h : Hs} (hg : hs[k]? = some h) (hb : houseB h = false) : cfgB hs = false := by
  rw [Bool.eq_false_iff]; intro e
  rw [(cfgB_iff.1 e).2.1 h (List.mem_of_getElem? hg)] at hb; cases hb
theorem cfg_twice {hs : List Hs} {k : Nat} {x : ByteArray} (hg : (namesL hs)[k]? = some x) (ht : hasL ((namesL hs).take k) x = true) : cfgB hs = false := by
  rw [Bool.eq_false_iff]; intro e
  have hn := (cfgB_iff.1 e).2.2
  have hm := hasL_iff.1 ht
  obtain ⟨hlt, hx⟩ := List.getElem?_eq_some_iff.1 hg
  obtain ⟨j, hj, hjx⟩ := List.mem_take_iff_getElem.1 hm
  have := (List.getElem_inj hn).1 (hjx.trans hx.symm)
  omega
theorem nodup_take {L : List ByteArray} {k : Nat} {x : ByteArray} (hg : L[k]? = some x) (hn : (L.take k).Nodup) (ht : hasL (L.take k) x = false) : (L.take (k + 1)).Nodup := by
  rw [List.take_add_one, hg]
  show (L.take k ++ [x]).Nodup
  rw [List.nodup_append]
  refine ⟨hn, by simp, fun a ha b hb => ?_⟩
  have : b = x := by simpa using hb
  subst this
  intro e; subst e
  exact hasL_false.1 ht ha
theorem cfg_good {hs : List Hs} (h1 : inI hs.length 1 4 = true) (h2 : ∀ h ∈ hs, houseB h = true) (h3 : (namesL hs).Nodup) : cfgB hs = true := by
  unfold cfgB
  rw [h1, List.all_eq_true.2 h2, decide_eq_true h3]; rfl
theorem nrow_take {w : World} {B : Nat} {T : TypeId} {g n cap k : Nat} {L : List ByteArray} (h : w.ownsRow B T 1 (.slice (some ⟨g, 0, none⟩) n cap) n (L.map Value.string)) (hk : k ≤ n) : NRow w (.slice (some ⟨g, 0, none⟩) k cap) (L.take k) := by
  have hl : (L.take k).length = k := by
    have := h.1
    simp at this
    rw [List.length_take]; omega
  have := own_take h hk
  rw [← List.map_take] at this
  have h2 : w.ownsRow B T 1 (.slice (some ⟨g, 0, none⟩) k cap) (L.take k).length ((L.take k).map Value.string) := by rw [hl]; exact this
  exact nrow_own h2

end Go.Proofs.YtbhnjnoblkfckaaGreatDoor

