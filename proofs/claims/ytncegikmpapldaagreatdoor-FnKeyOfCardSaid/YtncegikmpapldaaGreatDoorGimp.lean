import Derived.Test.YtncegikmpapldaaGreatDoorHstP
import Derived.Test.YtncegikmpapldaaGreatDoorShelf
import Derived.Test.YtncegikmpapldaaGreatDoorGhed
import Derived.Lib.Strings
import Derived.Test.YtncegikmpapldaaGreatDoorGcan
import Derived.Test.YtncegikmpapldaaGreatDoorFok
import Derived.Test.YtncegikmpapldaaGreatDoorRegR
import Derived.Test.YtncegikmpapldaaGreatDoorNumR
import Derived.Lib.Join
-- from XHstI
/- Walks: hosts, by the program. -/
namespace Go.Proofs.YtncegikmpapldaaGreatDoor
open Go.RowKit

/-- Without ':80' at the end. -/
def trimP (l : List UInt8) : List UInt8 := Lib.trimSuffix l [58, 56, 48]
theorem trim_host (l : List UInt8) : hostR l = if hostB (trimP (lowL l)) = true then (⟨(trimP (lowL l)).toArray⟩, true) else (⟨#[]⟩, false) := by
  have key : ∀ t : List UInt8, (hostB (stripL t) = true → trimP t = stripL t) ∧ (hostB (stripL t) = false → hostB (trimP t) = false) := by
    intro t
    unfold trimP Lib.trimSuffix
    rw [← Lib.hasSuffix_of_drop]
    simp only [List.length_cons, List.length_nil, Nat.zero_add, Nat.reduceAdd]
    unfold stripL
    by_cases h3 : 3 < t.length
    · by_cases hd : t.drop (t.length - 3) = [58, 56, 48]
      · rw [if_pos ⟨h3, hd⟩, hd]
        have : (decide (3 ≤ t.length) && ([58, 56, 48] : List UInt8) == [58, 56, 48]) = true := by simp; omega
        rw [if_pos this]
        exact ⟨fun _ => rfl, fun h => h⟩
      · rw [if_neg (fun h => hd h.2)]
        have : (decide (3 ≤ t.length) && (t.drop (t.length - 3)) == [58, 56, 48]) = false := by
          rw [Bool.and_eq_false_iff]; right; simpa using hd
        rw [if_neg (by rw [this]; decide)]
        exact ⟨fun _ => rfl, fun h => h⟩
    · rw [if_neg (fun h => h3 h.1)]
      by_cases hs : (decide (3 ≤ t.length) && (t.drop (t.length - 3)) == [58, 56, 48]) = true
      · rw [if_pos hs]
        rw [Bool.and_eq_true, decide_eq_true_eq, beq_iff_eq] at hs
        have hl : t.length = 3 := by omega
        have ht : t = [58, 56, 48] := by
          have := hs.2
          rw [hl] at this
          simpa using this
        subst ht
        refine ⟨fun h => absurd h (by decide), fun _ => by decide⟩
      · rw [if_neg hs]
        exact ⟨fun _ => rfl, fun h => h⟩
  unfold hostR hostC
  obtain ⟨k1, k2⟩ := key (lowL l)
  cases hb : hostB (stripL (lowL l))
  · rw [k2 hb]; rfl
  · rw [k1 hb, hb]

set_option maxHeartbeats 1600000 in
theorem impl_host (s : ByteArray) (w : World) (hs : s.size ≤ 1048576) (hcls : Cls w) :
    Calls Tryz.prog 108 #[.string s] w fun e w' => e = .returned (.tuple #[.string (hostR s.data.toList).1, .bool (hostR s.data.toList).2]) ∧ Below w.heap.size w w' := by
  have hL := fun W hW => impl_lower s W (by unfold maxLen; omega) hW
  have hlen : (lowL s.data.toList).length = s.size := by rw [low_len, size_len]
  have hR := trim_host s.data.toList
  generalize lowL s.data.toList = t at *
  unfold strV at hL
  have hts : (ByteArray.mk t.toArray).size = s.size := by rw [size_len]; simpa using hlen
  have htl : (ByteArray.mk t.toArray).data.toList = t := by simp
  have hT := fun W => Tryz.strings_TrimSuffix ⟨t.toArray⟩ ⟨#[58, 56, 48]⟩ W (by rw [hts]; omega)
  rw [htl] at hT
  have hple : (trimP t).length ≤ s.size := by rw [← hlen]; exact Lib.trimSuffix_le _ _
  have hT' : ∀ W, Calls Tryz.prog 144 #[.string ⟨t.toArray⟩, .string ⟨#[58, 56, 48]⟩] W fun e w' => e = .returned (.string ⟨(trimP t).toArray⟩) ∧ w' = W := hT
  clear hT htl
  generalize trimP t = p at *
  have hXl : (ByteArray.mk p.toArray).data.toList = p := by simp
  have hXs : (ByteArray.mk p.toArray).size = p.length := by rw [size_len]
  generalize hX : (ByteArray.mk p.toArray) = X at *
  have hPar := fun W => impl_parts X 46 W (by omega)
  rw [hXl] at hPar
  have HXl := Lib.hid hXl; clear hXl hX
  have HR := Lib.hid hR; clear hR
  generalize (ByteArray.mk t.toArray) = T at *
  go_enter Tryz.func108, Tryz.ntmps108
  go_wp2_with fail
  refine (hL _ hcls).mono ?_
  rintro e w1 ⟨rfl, hb1⟩
  go_wp2_with fail
  refine (hT' _).mono ?_
  rintro e w2 ⟨rfl, rfl⟩
  clear hT' hL
  by_cases h20 : X.size ≤ 20
  · go_wp2_with fail
    refine (hPar _).mono ?_
    rintro e w2 ⟨v, rfl, ho, hb2⟩
    have hne := partsL_ne p 46
    have hpos : 0 < (partsL p 46).length := by
      cases hp : partsL p 46 with
      | nil => exact absurd hp hne
      | cons => simp
    obtain ⟨g, cap, rfl⟩ := own_form ho hpos
    have hplen := partsL_len p 46
    have hcell : ∀ j x, (partsL p 46)[j]? = some x → w2.cell? ⟨g, j, none⟩ = some (.string ⟨x.toArray⟩) := fun j x hj => own_cell ho (by rw [List.getElem?_map, hj]; rfl)
    have hgl := (ho.lt g rfl).2
    have hplB : ∀ x ∈ partsL p 46, x.length ≤ p.length := fun x hp => parts_le hp
    have HCell := Lib.hid hcell; have HPl := Lib.hid hplB
    have hbel := hb1.trans (hb2.mono hb1.size)
    have HBel := Lib.hid hbel
    have hhb : hostB p = (decide (p.length ≤ 20) && (partsL p 46).all tokB) := rfl
    have HH := Lib.hid hhb
    have hcls2 := (hcls.below hb1 (Nat.le_refl _)).below hb2 (Nat.le_refl _)
    clear ho hcell hplB hne hb1 hb2 hbel hhb hPar hcls
    generalize hPs : partsL p 46 = Ps at *
    have HPs := Lib.hid hPs
    clear hPs
    go_wp2_with fail
    go_loopw [16] (fun i wr => ∃ k : Nat, k ≤ Ps.length ∧ i = .int .i64 k ∧ (Ps.take k).all tokB = true ∧ wr = w2) (fun i _ => Ps.length - (intOf i).toNat)
    case atStart => exact ⟨0, Nat.zero_le _, rfl, by simp, rfl⟩
    case round =>
      obtain ⟨k, hk, rfl, hall, rfl⟩ := hrel
      by_cases hlt : k < Ps.length
      · have hgk : Ps[k]? = some Ps[k] := List.getElem?_eq_getElem hlt
        have c0 := HCell.out k _ hgk
        have hpk := HPl.out Ps[k] (List.getElem_mem hlt)
        have htk : Ps.take (k + 1) = Ps.take k ++ [Ps[k]] := by rw [List.take_add_one, hgk]; rfl
        have hmem : Ps[k] ∈ Ps := List.getElem_mem hlt
        generalize Ps[k] = q at *
        have hT := fun W hW => impl_tok ⟨q.toArray⟩ W (by unfold maxLen; rw [size_len]; simp only; omega) hW
        have hpl : (ByteArray.mk q.toArray).data.toList = q := by simp
        rw [hpl] at hT
        have HTk := Lib.hid htk
        clear htk hpl hgk
        cases htp : tokB q
        · rw [htp] at hT
          have hf : hostB p = false := by
            rw [HH.out]
            have : Ps.all tokB = false := by
              rw [Bool.eq_false_iff]; intro h
              rw [List.all_eq_true] at h
              rw [h q hmem] at htp; cases htp
            rw [this, Bool.and_false]
          have hr := HR.out
          rw [hf] at hr
          have HF := Lib.hid hr
          clear hf htp hmem hr
          go_wp2_with fail
          refine (hT _ hcls2).mono ?_
          rintro e w3 ⟨rfl, rfl⟩
          go_wp2
          go_ret2
          rw [HF.out]
          exact ⟨rfl, HBel.out⟩
        · rw [htp] at hT
          have hall' : (Ps.take (k + 1)).all tokB = true := by rw [HTk.out, List.all_append, hall]; simp [htp]
          have HA := Lib.hid hall'
          clear hall' htp hmem hall
          go_wp2_with fail
          refine (hT _ hcls2).mono ?_
          rintro e w3 ⟨rfl, rfl⟩
          go_wp2
          go_roundw
          case rel => exact ⟨k + 1, by omega, by go_num, HA.out, trivial⟩
          case measure => simp [intOf]; omega
      · have hkn : k = Ps.length := by omega
        subst hkn
        rw [List.take_of_length_le (Nat.le_refl _)] at hall
        have hf : hostB p = true := by
          rw [HH.out, hall, Bool.and_true, decide_eq_true_eq, ← hXs]; exact h20
        have hr := HR.out
        rw [hf, if_pos rfl] at hr
        have HF := Lib.hid hr
        clear hf hr hall
        go_wp2
        go_ret2
        rw [HF.out]
        exact ⟨rfl, HBel.out⟩
  · have hf : hostB p = false := by unfold hostB; rw [decide_eq_false (by rw [← hXs]; exact h20), Bool.false_and]
    have hr := HR.out
    rw [hf] at hr
    have HF := Lib.hid hr
    have HB := Lib.hid hb1
    clear hf hr hb1
    go_wp2
    go_ret2
    rw [HF.out]
    exact ⟨rfl, HB.out⟩
end Go.Proofs.YtncegikmpapldaaGreatDoor

-- from XHok
/- Walks: whether a host is in its plainest form, by the program. -/
namespace Go.Proofs.YtncegikmpapldaaGreatDoor
open Go.RowKit

theorem host_ps (t : ByteArray) : ∃ (T : ByteArray) (ok : Bool), hostR t.data.toList = (T, ok) ∧ ((ok = true ∧ T = t) ↔ hostB t.data.toList = true) := by
  obtain ⟨T, ok, hr⟩ : ∃ T ok, hostR t.data.toList = (T, ok) := ⟨_, _, rfl⟩
  refine ⟨T, ok, hr, ?_⟩
  constructor
  · rintro ⟨rfl, rfl⟩; exact (hostR_yes hr).1
  · intro h
    rw [host_again h] at hr
    obtain ⟨h1, h2⟩ := Prod.mk.inj hr
    exact ⟨h2.symm, by rw [← h1]⟩
theorem strh_same (a : ByteArray) : (a.toList == a.toList) = true := by simp
theorem strh_ne {a b : ByteArray} (h : a ≠ b) : (a.toList == b.toList) = false := by
  rw [Lib.toList_data, Lib.toList_data]
  simp only [beq_eq_false_iff_ne, ne_eq]
  intro e
  exact h (ByteArray.ext (Array.toList_inj.1 e))

set_option maxHeartbeats 800000 in
theorem impl_hok (t : ByteArray) (w : World) (ht : t.size ≤ 1048576) (hcls : Cls w) :
    Calls Tryz.prog 58 #[.string t] w fun e w' => e = .returned (.bool (hostB t.data.toList)) ∧ Below w.heap.size w w' := by
  have hU := fun W hW => impl_host t W (by omega) hW
  obtain ⟨T, okT, hT, hTT⟩ := host_ps t
  rw [hT] at hU
  dsimp only at hU
  have hdef : hostB t.data.toList = (okT && decide (T = t)) := by rw [Bool.eq_iff_iff]; simpa using hTT.symm
  rw [hdef]
  clear hdef hTT hT
  go_enter Tryz.func58, Tryz.ntmps58
  go_wp2_with fail
  refine (hU _ hcls).mono ?_
  rintro e w1 ⟨rfl, hb1⟩
  have HB := Lib.hid hb1
  clear hb1 hU hcls
  cases okT
  · go_wp2
    go_ret
    exact ⟨rfl, HB.out⟩
  · by_cases e1 : T = t
    · subst e1
      have se := strh_same T
      go_wp2
      go_ret
      exact ⟨by simp, HB.out⟩
    · have se := strh_ne e1
      have E := Lib.hid e1
      clear e1
      go_wp2
      go_ret
      exact ⟨by simp [E.out], HB.out⟩
end Go.Proofs.YtncegikmpapldaaGreatDoor

-- from XHelI
/- Walks: verbs, names of a request's own, bodies, the address, by the program. -/
namespace Go.Proofs.YtncegikmpapldaaGreatDoor
open Go.RowKit

set_option maxHeartbeats 400000 in
theorem impl_verb (s : ByteArray) (w : World) :
    Calls Tryz.prog 57 #[.string s] w fun e w' => e = .returned (.bool (verbB s.data.toList)) ∧ w = w' := by
  have he : verbB s.data.toList = (s.toList == [103, 101, 116] || s.toList == [112, 117, 116] || s.toList == [112, 117, 114, 103, 101]) := by rw [Lib.toList_data]; rfl
  have HE := Lib.hid he; clear he
  go_enter Tryz.func57, Tryz.ntmps57
  go_wp2
  all_goals go_ret
  all_goals (refine ⟨?_, rfl⟩; rw [HE.out]; clear HE; simp_all)

set_option maxHeartbeats 400000 in
theorem impl_own (s : ByteArray) (w : World) :
    Calls Tryz.prog 110 #[.string s] w fun e w' => e = .returned (.bool (ownB s.data.toList)) ∧ w = w' := by
  have he : ownB s.data.toList = (s.toList == [104, 111, 115, 116] || s.toList == [108, 101, 110, 103, 116, 104] || s.toList == [116, 114, 97, 110, 115, 102, 101, 114]) := by rw [Lib.toList_data]; rfl
  have HE := Lib.hid he; clear he
  go_enter Tryz.func110, Tryz.ntmps110
  go_wp2
  all_goals go_ret
  all_goals (refine ⟨?_, rfl⟩; rw [HE.out]; clear HE; simp_all)

/-- How long a body may be. -/
def mostN (verb : List UInt8) : Nat := if verb = bPut then 20 else 0
set_option maxHeartbeats 400000 in
theorem impl_most (s : ByteArray) (w : World) :
    Calls Tryz.prog 61 #[.string s] w fun e w' => e = .returned (.int .i64 (mostN s.data.toList : Nat)) ∧ w = w' := by
  by_cases h : s.data.toList = bPut
  · have he : (s.toList == [112, 117, 116]) = true := by rw [Lib.toList_data, h]; rfl
    have hm : mostN s.data.toList = 20 := if_pos h
    rw [hm]
    clear h hm
    go_enter Tryz.func61, Tryz.ntmps61
    go_wp2
    go_ret
    exact ⟨rfl, rfl⟩
  · have he : (s.toList == [112, 117, 116]) = false := by rw [Lib.toList_data]; simpa [bPut] using h
    have hm : mostN s.data.toList = 0 := if_neg h
    rw [hm]
    clear h hm
    go_enter Tryz.func61, Tryz.ntmps61
    go_wp2
    go_ret
    exact ⟨rfl, rfl⟩

def bodyP (verb body : List UInt8) : Bool := decide (body.length ≤ mostN verb) && printB body
theorem impl_body (v s : ByteArray) (w : World) (hs : s.size ≤ maxLen) :
    Calls Tryz.prog 60 #[.string s, .int .i64 (mostN v.data.toList : Nat)] w fun e w' => e = .returned (.bool (bodyP v.data.toList s.data.toList)) ∧ w = w' :=
  impl_bodyok s (mostN v.data.toList) w hs
def addrB (t h : List UInt8) : Bool := decide (canonL t = some t) && hostB h
set_option maxHeartbeats 800000 in
theorem impl_target (t : ByteArray) (w : World) (ht : t.size ≤ 1048576) (hcls : Cls w) :
    Calls Tryz.prog 43 #[.string t] w fun e w' => e = .returned (.bool (decide (canonL t.data.toList = some t.data.toList))) ∧ Below w.heap.size w w' := by
  have hU := fun W hW => impl_canon t W (by omega) hW
  obtain ⟨T, okT, hT, hTT⟩ := can_parts t
  rw [hT] at hU
  have hdef : decide (canonL t.data.toList = some t.data.toList) = (okT && decide (T = t)) := by rw [Bool.eq_iff_iff]; simpa using hTT.symm
  rw [hdef]
  clear hdef hTT hT
  go_enter Tryz.func43, Tryz.ntmps43
  go_wp2_with fail
  refine (hU _ hcls).mono ?_
  rintro e w1 ⟨rfl, hb1⟩
  have HB := Lib.hid hb1
  clear hb1 hU hcls
  cases okT
  · go_wp2
    go_ret
    exact ⟨rfl, HB.out⟩
  · by_cases e1 : T = t
    · subst e1
      have se := str_same T
      go_wp2
      go_ret
      exact ⟨by simp, HB.out⟩
    · have se := str_ne e1
      have E := Lib.hid e1
      clear e1
      go_wp2
      go_ret
      exact ⟨by simp [E.out], HB.out⟩
end Go.Proofs.YtncegikmpapldaaGreatDoor

-- from XHtI
/- Walks: whether other fields are ok, and the text ahead of a body, by the program. -/
namespace Go.Proofs.YtncegikmpapldaaGreatDoor
open Go.RowKit

set_option maxRecDepth 100000 in
set_option maxHeartbeats 1600000 in
theorem impl_others (v : Value) (fs : List Fd) (w : World) (hF : FRow w v fs) (hok : FOk fs 281474976710656) (hcls : Cls w) :
    Calls Tryz.prog 59 #[v] w fun e w' => e = .returned (.bool (decide (fs.length ≤ 6) && fldsB fs)) ∧ Below w.heap.size w w' := by
  obtain ⟨a, c, rfl, h1, h2, h3⟩ := hF
  unfold maxLen at h2
  have H3 := Lib.hid h3; clear h3
  have HOk := Lib.hid hok; clear hok
  have HCl : Hid (∀ W, Below w.heap.size w W → Cls W) := Lib.hid fun W hW => hcls.below hW (Nat.le_refl _)
  clear hcls
  by_cases h6 : fs.length ≤ 6
  · have hdef : (decide (fs.length ≤ 6) && fldsB fs) = fldsB fs := by rw [decide_eq_true h6]; rfl
    rw [hdef]; clear hdef
    have hdef : fldsB fs = fldsB fs := rfl
    generalize hR : fldsB fs = R at hdef ⊢
    have HR := Lib.hid hR
    clear hR hdef
    go_enter Tryz.func59, Tryz.ntmps59
    go_wp2_with fail
    go_loopw [10] (fun i wr => ∃ k : Nat, k ≤ fs.length ∧ i = .int .i64 k ∧ fldsB (fs.take k) = true ∧ Below w.heap.size w wr) (fun i _ => fs.length - (intOf i).toNat)
    case atStart => exact ⟨0, Nat.zero_le _, rfl, rfl, Below.refl _ _⟩
    case round =>
      obtain ⟨k, hk, rfl, hall, hbr⟩ := hrel
      by_cases hlt : k < fs.length
      · obtain ⟨b1, o1, rfl, hb1, c1, c2⟩ := H3.out k fs[k] (List.getElem?_eq_getElem hlt)
        have k1 := (hbr.cell (p := ⟨b1, o1 + k * 2, none⟩) hb1).trans c1
        have k2 := (hbr.cell (p := ⟨b1, o1 + k * 2 + 1, none⟩) hb1).trans c2
        have hmem : fs[k] ∈ fs := List.getElem_mem hlt
        have hok := HOk.out fs[k] hmem
        have hsn : fs.take (k + 1) = fs.take k ++ [fs[k]] := by rw [List.take_add_one, List.getElem?_eq_getElem hlt]; rfl
        have HSn := Lib.hid hsn; clear hsn
        clear c1 c2
        generalize fs[k] = f at *
        have HMem := Lib.hid hmem; clear hmem
        obtain ⟨nm, vl⟩ := f
        dsimp only at k1 k2 hok
        have hF := fun W hW => impl_ok nm vl W (by unfold maxLen; omega) (by unfold maxLen; omega) hW
        have hOwn := fun W => impl_own nm W
        have HA := Lib.hid hall; clear hall
        have hwr : w.heap.size ≤ wr.heap.size := hbr.size
        have hbA := hbr.alloc hwr (.cells #[.string nm, .string vl] 50)
        have q0 : (wr.alloc (.cells #[.string nm, .string vl] 50)).cell? ⟨wr.heap.size, 0, none⟩ = some (.string nm) := by rw [World.cell?_alloc_at _ _ _ _ rfl]; rfl
        have q1 : (wr.alloc (.cells #[.string nm, .string vl] 50)).cell? ⟨wr.heap.size, 1, none⟩ = some (.string vl) := by rw [World.cell?_alloc_at _ _ _ _ rfl]; rfl
        have hsA : (wr.alloc (.cells #[.string nm, .string vl] 50)).heap.size = wr.heap.size + 1 := by simp
        have HQ := Lib.hid (And.intro q0 (And.intro q1 hsA))
        clear q0 q1 hsA
        cases hfd : fdB (nm, vl)
        · have hf : R = false := by rw [← HR.out]; exact flds_at HMem.out (.inl hfd)
          rw [hfd] at hF
          clear hfd hOwn
          subst hf
          go_wp2_with fail
          refine (hF _ (HCl.out _ hbA)).mono ?_
          rintro e w2 ⟨rfl, hb2⟩
          have HB := Lib.hid (hbA.trans (hb2.mono (by have := HQ.out.2.2; omega)))
          clear hbA hb2 hbr
          go_wp2
          go_ret
          exact ⟨rfl, HB.out⟩
        · rw [hfd] at hF
          cases hown : ownB nm.data.toList
          · have hall := flds_snoc HA.out hfd hown
            rw [← HSn.out] at hall
            have HA2 := Lib.hid hall
            rw [hown] at hOwn
            clear hall hfd hown
            go_wp2_with fail
            refine (hF _ (HCl.out _ hbA)).mono ?_
            rintro e w2 ⟨rfl, hb2⟩
            have hbB := hbA.trans (hb2.mono (by have := HQ.out.2.2; omega))
            have r0 := (hb2.cell (p := ⟨wr.heap.size, 0, none⟩) (by have := HQ.out.2.2; simp only; omega)).trans HQ.out.1
            have r1 := (hb2.cell (p := ⟨wr.heap.size, 1, none⟩) (by have := HQ.out.2.2; simp only; omega)).trans HQ.out.2.1
            clear hb2 hbA hbr hF
            go_wp2_with fail
            refine (hOwn _).mono ?_
            rintro e w3 ⟨rfl, rfl⟩
            go_wp2
            go_roundw
            case rel => exact ⟨k + 1, by omega, by go_num, HA2.out, hbB⟩
            case measure => simp [intOf]; omega
          · have hf : R = false := by rw [← HR.out]; exact flds_at HMem.out (.inr hown)
            rw [hown] at hOwn
            clear hfd hown
            subst hf
            go_wp2_with fail
            refine (hF _ (HCl.out _ hbA)).mono ?_
            rintro e w2 ⟨rfl, hb2⟩
            have hbB := hbA.trans (hb2.mono (by have := HQ.out.2.2; omega))
            have r0 := (hb2.cell (p := ⟨wr.heap.size, 0, none⟩) (by have := HQ.out.2.2; simp only; omega)).trans HQ.out.1
            have r1 := (hb2.cell (p := ⟨wr.heap.size, 1, none⟩) (by have := HQ.out.2.2; simp only; omega)).trans HQ.out.2.1
            have HB := Lib.hid hbB
            clear hb2 hbA hbr hF hbB
            go_wp2_with fail
            refine (hOwn _).mono ?_
            rintro e w3 ⟨rfl, rfl⟩
            go_wp2
            go_ret
            exact ⟨rfl, HB.out⟩
      · have hkn : k = fs.length := by omega
        subst hkn
        rw [List.take_of_length_le (Nat.le_refl _)] at hall
        have HF := Lib.hid (HR.out.symm.trans hall)
        clear hall
        go_wp2
        go_ret
        rw [HF.out]
        exact ⟨rfl, hbr⟩
  · have hdef : (decide (fs.length ≤ 6) && fldsB fs) = false := by rw [decide_eq_false h6]; rfl
    rw [hdef]; clear hdef
    go_enter Tryz.func59, Tryz.ntmps59
    go_wp2
    go_ret
    exact ⟨rfl, Below.refl _ _⟩

/-! ### The text ahead of a body -/
theorem join_two (ls : List (List UInt8)) : Lib.join (ls ++ [[], []]) [10] = joinL ls ++ [10] := by
  have key : ∀ r : List (List UInt8), Lib.joinTail [10] (r ++ [[], []]) = 10 :: (joinL r ++ [10]) := by
    intro r
    induction r with
    | nil => rfl
    | cons y r ih =>
      unfold Lib.joinTail at ih ⊢
      simp only [List.cons_append, List.map_cons, List.flatten_cons] at ih ⊢
      rw [ih, joinL_cons]
      simp
  cases ls with
  | nil => rfl
  | cons x r =>
    rw [List.cons_append, Lib.join_cons, key, joinL_cons]
    simp
end Go.Proofs.YtncegikmpapldaaGreatDoor

-- from XHtH
/- Walks: the text ahead of a request's body, by the program. -/
namespace Go.Proofs.YtncegikmpapldaaGreatDoor
open Go.RowKit

/-- A literal of two texts. -/
def RTwo (B : Nat) (x y : ByteArray) : Value → World → Prop := fun v w => ∃ g, v = .slice (some ⟨g, 0, none⟩) 2 2 ∧ B ≤ g ∧ w.heap[g]? = some (.cells #[.string x, .string y] 9 (0, 0))

/-- What stays while new blocks come. -/
def Steady (R : Value → World → Prop) : Prop := ∀ v w w', R v w → Below w.heap.size w w' → R v w'
theorem steady_eq (x : Value) : Steady (REq x) := fun _ _ _ h _ => h
theorem steady_two (B : Nat) (x y : ByteArray) : Steady (RTwo B x y) := fun _ _ _ ⟨g, h1, h2, h3⟩ hb => ⟨g, h1, h2, (hb.block g (Array.getElem?_eq_some_iff.1 h3).1).trans h3⟩
def SteadyAll : List (Value → World → Prop) → Prop
  | [] => True
  | r :: rs => Steady r ∧ SteadyAll rs
theorem steady_at : ∀ {Rs : List (Value → World → Prop)} {i : Nat}, SteadyAll Rs → Steady (RAt Rs i)
  | [], i, _ => fun _ _ _ _ _ => by simp [RAt]
  | r :: rs, 0, h => by simpa [RAt] using h.1
  | r :: rs, i + 1, h => by simpa [RAt] using steady_at (Rs := rs) (i := i) h.2

theorem own_texts {w : World} {B n : Nat} {T : TypeId} {v : Value} {L : List (List UInt8)} (h : w.ownsRow B T 1 v n (L.map strV)) (hpos : 0 < n) :
    n = L.length ∧ ∃ g cap, v = .slice (some ⟨g, 0, none⟩) n cap ∧ n ≤ cap ∧ g < w.heap.size ∧ ∀ (j : Nat) x, (L.map fun l : List UInt8 => (⟨l.toArray⟩ : ByteArray))[j]? = some x → w.cell? ⟨g, 0 + j, none⟩ = some (.string x) := by
  have hn : n = L.length := by have := h.1; simpa using this.symm
  refine ⟨hn, ?_⟩
  rcases h.2 with ⟨rfl, h0⟩ | ⟨g, cap, cur, rfl, hB, hh, hc, hm, _, _⟩
  · omega
  · refine ⟨g, cap, rfl, hc, (Array.getElem?_eq_some_iff.1 hh).1, fun j x hj => ?_⟩
    rw [Nat.zero_add]
    refine own_cell h ?_
    rw [List.getElem?_map] at hj ⊢
    obtain ⟨l, hl, rfl⟩ := Option.map_eq_some_iff.1 hj
    rw [hl]; rfl
theorem map_texts (L : List (List UInt8)) : (L.map fun l : List UInt8 => (⟨l.toArray⟩ : ByteArray)).map (·.data.toList) = L := by
  rw [List.map_map]
  conv => rhs; rw [← List.map_id L]
  exact List.map_congr_left fun l _ => by simp
theorem len_fd (n : Nat) (h : n ≤ 20) : fdT (⟨bLength.toArray⟩, ⟨(Lib.decDigits n).toArray⟩) = ⟨(bLength ++ 58 :: 32 :: Lib.decDigits n).toArray⟩ := by
  have h1 : tokB bLength = true := by decide
  have h2 := (dig_val n h).1
  have hf : fdB (⟨bLength.toArray⟩, ⟨(Lib.decDigits n).toArray⟩) = true := by simp [fdB, h1, h2]
  refine str_inj2 ?_
  rw [fdT_list hf]

set_option maxRecDepth 100000 in
set_option maxHeartbeats 3200000 in
theorem impl_head (h : Hd) (v : Value) (w : World) (hv : FRow w v h.fs) (hn : h.fs.length ≤ 6) (hok : FOk h.fs 281474976710656) (hh : hostB h.host.data.toList = true)
    (b1 : h.verb.size ≤ 2000000) (b2 : h.target.size ≤ 2000000) (b4 : h.body.size ≤ 20) (hcls : Cls w) (htab : Tab w) :
    Calls Tryz.prog 62 #[.agg #[.string h.verb, .string h.target, .string h.host, v, .string h.body]] w fun e w' => e = .returned (.string ⟨(headT h).toArray⟩) ∧ Below w.heap.size w w' := by
  obtain ⟨i0, hi, hz0, hz1, hz2⟩ := info_parts Tryz.info9
  have hHT : headT h = joinL (hedLines h) ++ [10] := rfl
  have hHL : hedLines h = (h.verb.data.toList ++ 32 :: h.target.data.toList) :: (bHost ++ 58 :: 32 :: h.host.data.toList) :: ((h.fs.map fun f => (fdT f).data.toList) ++ lenLines h.body.data.toList) := rfl
  have hfdh : fdB (⟨bHost.toArray⟩, h.host) = true := by
    have h1 := host_val hh
    have h2 : tokB bHost = true := by decide
    simp [fdB, h1, h2]
  have hfdT : (fdT (⟨bHost.toArray⟩, h.host)).data.toList = bHost ++ 58 :: 32 :: h.host.data.toList := by rw [fdT_list hfdh]
  have hhs : h.host.size ≤ 20 := by rw [size_len]; exact (host_len hh).2
  have hll : lenLines h.body.data.toList = if h.body.data.toList = [] then [] else [bLength ++ 58 :: 32 :: Lib.decDigits h.body.data.toList.length] := rfl
  have hfl : (headT h).length ≤ 8000000 := by have := head_len h (by omega); omega
  obtain ⟨verb, target, host, fs, body⟩ := h
  dsimp only at *
  generalize headT ⟨verb, target, host, fs, body⟩ = full at *
  generalize hedLines ⟨verb, target, host, fs, body⟩ = lines at *
  obtain ⟨a, c, rfl, h1, h2, h3⟩ := hv
  unfold maxLen at h2
  have H3 := Lib.hid h3; clear h3
  have HT := Lib.hid hHT; clear hHT
  have HL := Lib.hid hHL; clear hHL
  have HLL := Lib.hid hll; clear hll
  have HOk := Lib.hid hok; clear hok
  have HFh := Lib.hid hfdT; clear hfdT hfdh hh
  have HW := Lib.hid (And.intro hcls htab); clear hcls htab
  go_enter Tryz.func62, Tryz.ntmps62
  go_wp2_with fail
  obtain ⟨wA, hwA⟩ : ∃ wA, wA = w.alloc (.cells #[.string verb, .string target, .string host, .slice a fs.length c, .string body] 40) := ⟨_, rfl⟩
  rw [← hwA]
  have hsA : wA.heap.size = w.heap.size + 1 := by rw [hwA]; simp
  have hbA : Below w.heap.size w wA := by rw [hwA]; exact (Below.refl _ _).alloc (Nat.le_refl _) _
  have hcell : ∀ W, Below (w.heap.size + 1) wA W → W.cell? ⟨w.heap.size, 0, none⟩ = some (.string verb) ∧ W.cell? ⟨w.heap.size, 1, none⟩ = some (.string target) ∧ W.cell? ⟨w.heap.size, 2, none⟩ = some (.string host) ∧ W.cell? ⟨w.heap.size, 3, none⟩ = some (.slice a fs.length c) ∧ W.cell? ⟨w.heap.size, 4, none⟩ = some (.string body) := fun W hW => by
    have r := (hW.block w.heap.size (by omega)).trans (show wA.heap[w.heap.size]? = some (.cells #[.string verb, .string target, .string host, .slice a fs.length c, .string body] 40 (0, 0)) by rw [hwA]; exact heap_alloc_new w _)
    refine ⟨?_, ?_, ?_, ?_, ?_⟩ <;> simp [World.cell?, r]
  have HCell := Lib.hid hcell
  have HCl : Hid (∀ W, Below (w.heap.size + 1) wA W → Cls W ∧ Tab W) := Lib.hid fun W hW =>
    have := hbA.trans (hW.mono (Nat.le_succ _))
    ⟨HW.out.1.below this (Nat.le_refl _), HW.out.2.below this (Nat.le_refl _)⟩
  have HBA := Lib.hid hbA
  have hFT := fun W hW => impl_text ⟨bHost.toArray⟩ host W (by decide) (by unfold maxLen; omega) hW
  have hFT' : ∀ W, Cls W → Calls Tryz.prog 112 #[.agg #[.string ⟨#[104, 111, 115, 116]⟩, .string host]] W fun e w' => e = .returned (.string (fdT (⟨bHost.toArray⟩, host))) ∧ Below W.heap.size W w' := hFT
  have hFl := fdT_len (⟨bHost.toArray⟩, host)
  generalize fdT (⟨bHost.toArray⟩, host) = FH at *
  clear hcell hwA hbA hFT HW
  refine wp_region_last (by kernel_rfl) 11 (by kernel_rfl) (by kernel_rfl) (by kernel_rfl)
    (fun u => { tmps := #[.agg #[.string verb, .string target, .string host, .slice a fs.length c, .string body], .pointer (some ⟨w.heap.size, 0, none⟩), .string ⟨#[]⟩, undef, undef, undef, u 0, u 1, u 2, u 3, u 4, u 5, u 6, u 7, u 8, u 9, u 10, undef, undef, undef, undef, undef, undef, undef, undef, undef, undef, undef, undef, undef, undef, undef, undef, undef, undef, undef, undef, undef, undef, undef, undef, undef, undef, undef, undef, undef], defers := [] })
    (fun _ W => Below (w.heap.size + 1) wA W)
    (RAt [REq (.pointer (some ⟨w.heap.size, 0, none⟩)), REq (.string verb), REq (.string (verb ++ ⟨#[32]⟩)), REq (.pointer (some ⟨w.heap.size, 1, none⟩)), REq (.string target), REq (.string (verb ++ ⟨#[32]⟩ ++ target)), REq (.pointer (some ⟨w.heap.size, 2, none⟩)), REq (.string host), REq (.agg #[.string ⟨#[104, 111, 115, 116]⟩, .string host]), REq (.string FH), RTwo (w.heap.size + 1) (verb ++ ⟨#[32]⟩ ++ target) FH])
    (fun w w' => Below w.heap.size w w') (fun _ => undef) (Below.refl _ _).drew
    (fun i v w w' _ hR hle => steady_at (by exact ⟨steady_eq _, steady_eq _, steady_eq _, steady_eq _, steady_eq _, steady_eq _, steady_eq _, steady_eq _, steady_eq _, steady_eq _, steady_two _ _ _, trivial⟩) v w w' hR hle) ?_ ?_
  · intro i hi u w1 k hk hC hd
    obtain ⟨c0, c1, c2, _, _⟩ := HCell.out w1 hC
    have hsz := hC.size
    match i, hi with
    | 0, _ =>
      refine wpOp_step rfl (fun K hK => ?_)
      clear hd
      go_simp
      exact hK _ _ ⟨_, rfl, rfl, Below.refl _ _, hC⟩
    | 1, _ =>
      have e0 : u 0 = .pointer (some ⟨w.heap.size, 0, none⟩) := hd 0 (dep_of (by kernel_rfl))
      refine wpOp_step rfl (fun K hK => ?_)
      clear hd
      go_simp
      exact hK _ _ ⟨_, by simp [upd, e0], rfl, Below.refl _ _, hC⟩
    | 2, _ =>
      have e1 : u 1 = .string verb := hd 1 (dep_of (by kernel_rfl))
      have z1 : ¬ (9223372036854775807 < verb.size + (ByteArray.mk #[32]).size) := by have : (ByteArray.mk #[32]).size = 1 := rfl; omega
      have z2 : ¬ (9223372036854775807 < verb.size + 1) := by omega
      refine wpOp_step rfl (fun K hK => ?_)
      clear hd
      go_simp
      exact hK _ _ ⟨_, by simp [upd, e1], rfl, Below.refl _ _, hC⟩
    | 3, _ =>
      refine wpOp_step rfl (fun K hK => ?_)
      clear hd
      go_simp
      exact hK _ _ ⟨_, rfl, rfl, Below.refl _ _, hC⟩
    | 4, _ =>
      have e3 : u 3 = .pointer (some ⟨w.heap.size, 1, none⟩) := hd 3 (dep_of (by kernel_rfl))
      refine wpOp_step rfl (fun K hK => ?_)
      clear hd
      go_simp
      exact hK _ _ ⟨_, by simp [upd, e3], rfl, Below.refl _ _, hC⟩
    | 5, _ =>
      have e2 : u 2 = .string (verb ++ ⟨#[32]⟩) := hd 2 (dep_of (by kernel_rfl))
      have e4 : u 4 = .string target := hd 4 (dep_of (by kernel_rfl))
      have z1 : ¬ (9223372036854775807 < (verb ++ ⟨#[32]⟩).size + target.size) := by rw [ByteArray.size_append]; have : (ByteArray.mk #[32]).size = 1 := rfl; omega
      have z2 : ¬ (9223372036854775807 < verb.size + (ByteArray.mk #[32]).size + target.size) := by have : (ByteArray.mk #[32]).size = 1 := rfl; omega
      have z3 : ¬ (9223372036854775807 < verb.size + 1 + target.size) := by omega
      refine wpOp_step rfl (fun K hK => ?_)
      clear hd
      go_simp
      exact hK _ _ ⟨_, by simp [upd, e2, e4], rfl, Below.refl _ _, hC⟩
    | 6, _ =>
      refine wpOp_step rfl (fun K hK => ?_)
      clear hd
      go_simp
      exact hK _ _ ⟨_, rfl, rfl, Below.refl _ _, hC⟩
    | 7, _ =>
      have e6 : u 6 = .pointer (some ⟨w.heap.size, 2, none⟩) := hd 6 (dep_of (by kernel_rfl))
      refine wpOp_step rfl (fun K hK => ?_)
      clear hd
      go_simp
      exact hK _ _ ⟨_, by simp [upd, e6], rfl, Below.refl _ _, hC⟩
    | 8, _ =>
      have e7 : u 7 = .string host := hd 7 (dep_of (by kernel_rfl))
      refine wpOp_step rfl (fun K hK => ?_)
      clear hd
      go_simp
      exact hK _ _ ⟨_, by simp [upd, e7], rfl, Below.refl _ _, hC⟩
    | 9, _ =>
      have e8 : u 8 = .agg #[.string ⟨#[104, 111, 115, 116]⟩, .string host] := hd 8 (dep_of (by kernel_rfl))
      refine wpOp_step rfl (fun K hK => ?_)
      clear hd
      go_simp
      refine (hFT' _ (HCl.out _ hC).1).mono ?_
      rintro e w2 ⟨rfl, hb2⟩
      exact hK _ _ ⟨_, by simp [upd, e8], rfl, hb2, hC.trans (hb2.mono (by omega))⟩
    | 10, _ =>
      have e5 : u 5 = .string (verb ++ ⟨#[32]⟩ ++ target) := hd 5 (dep_of (by kernel_rfl))
      have e9 : u 9 = .string FH := hd 9 (dep_of (by kernel_rfl))
      refine wpOp_step rfl (fun K hK => ?_)
      clear hd
      go_simp
      exact hK _ _ ⟨_, by simp [upd, e5, e9], ⟨_, rfl, by omega, heap_alloc_new w1 _⟩, (Below.refl _ _).alloc (Nat.le_refl _) _, hC.alloc (by omega) _⟩
  · intro u w1 k hk hC hd
    obtain ⟨g, e10, hg, hcl⟩ : RTwo (w.heap.size + 1) (verb ++ (⟨#[32]⟩ : ByteArray) ++ target) FH (u 10) w1 := hd 10 (by decide)
    refine wpOp_step rfl (fun K hK => ?_)
    clear hd
    go_simp
    refine hK _ _ ?_
    clear hK K
    have hX : (verb ++ (⟨#[32]⟩ : ByteArray) ++ target) = ⟨(verb.data.toList ++ 32 :: target.data.toList).toArray⟩ := str_inj2 (by simp)
    have hFHl : FH = ⟨(bHost ++ 58 :: 32 :: host.data.toList).toArray⟩ := str_inj2 (by rw [HFh.out])
    have hown : w1.ownsRow (w.heap.size + 1) 9 1 (.slice (some ⟨g, 0, none⟩) 2 2) 2 ([verb.data.toList ++ 32 :: target.data.toList, bHost ++ 58 :: 32 :: host.data.toList].map strV) :=
      ⟨rfl, .inr ⟨g, 2, _, rfl, hg, hcl, Nat.le_refl _, by decide, rfl, by rw [hX, hFHl]; rfl⟩⟩
    generalize hL0 : [verb.data.toList ++ 32 :: target.data.toList, bHost ++ 58 :: 32 :: host.data.toList] = L0 at *
    have hL0l : L0.length = 2 := by rw [← hL0]; rfl
    have HL0 := Lib.hid hL0
    have hLs : lines = L0 ++ ((fs.map fun f => (fdT f).data.toList) ++ lenLines body.data.toList) := by rw [HL.out, ← hL0]; rfl
    have HLs := Lib.hid hLs
    obtain ⟨_, _, _, c3, c4⟩ := HCell.out w1 hC
    clear hcl hX hFHl hL0 hLs e10 hk HL
    go_wp2_with fail
    go_loopw [3, 20] (fun x i wr => ∃ k : Nat, k ≤ fs.length ∧ i = .int .i64 k ∧ wr.ownsRow (w.heap.size + 1) 9 1 x (2 + k) ((L0 ++ (fs.take k).map fun f => (fdT f).data.toList).map strV) ∧ Below (w.heap.size + 1) wA wr) (fun _ i _ => fs.length - (intOf i).toNat)
    case atStart => exact ⟨0, Nat.zero_le _, rfl, by simpa using hown, hC⟩
    case round =>
      obtain ⟨k, hk, rfl, hown, hbr⟩ := hrel
      have hwr : w.heap.size + 1 ≤ wr.heap.size := by have := hbr.size; omega
      have hbw := HBA.out.trans (hbr.mono (Nat.le_succ _))
      by_cases hlt : k < fs.length
      · obtain ⟨b1, o1, rfl, hb1, c1, c2⟩ := H3.out k fs[k] (List.getElem?_eq_getElem hlt)
        have k1 := (hbw.cell (p := ⟨b1, o1 + k * 2, none⟩) hb1).trans c1
        have k2 := (hbw.cell (p := ⟨b1, o1 + k * 2 + 1, none⟩) hb1).trans c2
        have hok := HOk.out fs[k] (List.getElem_mem hlt)
        have hsn : fs.take (k + 1) = fs.take k ++ [fs[k]] := by rw [List.take_add_one, List.getElem?_eq_getElem hlt]; rfl
        have HSn := Lib.hid hsn; clear hsn
        clear c1 c2
        generalize fs[k] = f at *
        obtain ⟨nm, vl⟩ := f
        dsimp only at k1 k2 hok
        have hT := fun W hW => impl_text nm vl W (by unfold maxLen; omega) (by unfold maxLen; omega) hW
        have hTl := fdT_len (nm, vl)
        generalize hF : fdT (nm, vl) = F at *
        have HF := Lib.hid hF; clear hF
        have hcl := (HCl.out _ (hbr.alloc hwr (.cells #[.string nm, .string vl] 50))).1
        clear hFT'
        go_wp2_with fail
        refine (hT _ hcl).mono ?_
        rintro e w2 ⟨rfl, hb2⟩
        have hb2' : Below wr.heap.size wr w2 := ((Below.refl _ _).alloc (Nat.le_refl _) _).trans (hb2.mono (by simp))
        have hown2 := own_below hown hb2'
        have hbr2 := hbr.trans (hb2'.mono hwr)
        have hsz2 := hb2'.size
        clear hown hbr hb2 hb2' hT hcl hbw
        go_wp2_with (at_builtin; go_must (refine wpList_append1 w2 rfl _ _ 46 rfl (w.heap.size + 1) 9 i0 _ 16 Tryz.underlying46 hi hz0 hz1 hz2 rfl _ _ _ (by rfl) hown2 _ rfl _ (by rfl) (by unfold maxLen; omega) (by omega) (by omega) ?_); intro v' w4 ho3 hb3 hlt3)
        go_roundw
        case rel =>
          refine ⟨k + 1, by omega, by go_num, ?_, hbr2.trans hb3⟩
          have : ([(nm, vl)].map fun f => (fdT f).data.toList).map strV = [.string F] := by
            show [strV (fdT (nm, vl)).data.toList] = _
            rw [HF.out]
          rw [HSn.out, List.map_append (l₁ := fs.take k), ← List.append_assoc, List.map_append (l₁ := L0 ++ _), this]; exact ho3
        case measure => simp [intOf]; omega
      · have hkn : k = fs.length := by omega
        subst hkn
        rw [List.take_length] at hown
        obtain ⟨_, _, _, d3, d4⟩ := HCell.out wr hbr
        by_cases hb : body.data.toList = []
        · have he : body.toList.isEmpty = true := by rw [Lib.toList_data, hb]; rfl
          have hl := HLL.out
          rw [if_pos hb] at hl
          have hfull : full = joinL (L0 ++ fs.map fun f => (fdT f).data.toList) ++ [10] := by rw [HT.out, HLs.out, hl, List.append_nil]
          have HFull := Lib.hid hfull
          have HL2 := Lib.hid hl
          clear hb hl hfull hFT'
          generalize (L0 ++ fs.map fun f => (fdT f).data.toList) = L1 at *
          go_wp2_with (at_builtin; go_must (refine wpList_append_lies _ rfl _ _ 46 (by rfl) (w.heap.size + 1) 9 i0 _ 1 16 Tryz.underlying46 hi hz0 hz1 hz2 (by rfl) (by decide) _ (2 + fs.length) _ (by rfl) (hown.alloc _) ⟨wr.heap.size, 0, none⟩ 2 2 [.string ⟨#[]⟩, .string ⟨#[]⟩] (by rfl) (by rfl) (pair_new wr ⟨#[]⟩ ⟨#[]⟩ _) (by intro x hx; simp at hx; rcases hx with rfl | rfl <;> rfl) (by omega) (by unfold maxLen; omega) (by omega) (by simp; omega) (wr.heap.size + 1) (by simp) ?_); intro g5 cap5 w5 ho5 hg5 hat5 hlt5)
          have ho6 : w5.ownsRow (w.heap.size + 1) 9 1 (.slice (some ⟨g5, 0, none⟩) ((2 + fs.length) + 2) cap5) ((2 + fs.length) + 2) ((L1 ++ [[], []]).map strV) := by rw [List.map_append]; exact ho5
          obtain ⟨hn6, g6, cap6, he6, hc6, hlt6, hcells6⟩ := own_texts ho6 (by omega)
          injection he6 with e61 _ e63
          injection e61 with e64
          injection e64 with e65
          subst e65; subst e63
          have hmt := map_texts (L1 ++ [[], []])
          have hjl : Lib.join (L1 ++ [[], []]) [10] = full := by rw [join_two, HFull.out]
          have hml : ((L1 ++ [[], []]).map fun l : List UInt8 => (⟨l.toArray⟩ : ByteArray)).length = (2 + fs.length) + 2 := by rw [List.length_map, ← hn6]
          generalize ((L1 ++ [[], []]).map fun l : List UInt8 => (⟨l.toArray⟩ : ByteArray)) = xs at *
          have hJ := Tryz.strings_Join g5 0 cap5 xs ⟨#[10]⟩ w5 hcells6 hlt6 (by omega) (by omega) (by rw [hmt]; show (Lib.join (L1 ++ [[], []]) [10]).length ≤ _; rw [hjl]; omega)
          rw [hmt] at hJ
          have hJ' : Calls Tryz.prog 113 #[.slice (some ⟨g5, 0, none⟩) ((2 + fs.length) + 2) cap5, .string ⟨#[10]⟩] w5 fun e w' => e = .returned (.string ⟨full.toArray⟩) ∧ Below w5.heap.size w5 w' := by
            rw [← hml, ← hjl]; exact hJ
          have hbel : Below (w.heap.size + 1) wA w5 := (hbr.alloc (by omega) _).grown hg5 (by simp; omega) (fun r hr => (hown.lt r hr).1)
          have HBel := Lib.hid (HBA.out.trans (hbel.mono (Nat.le_succ _)))
          clear hJ hmt hjl hml hn6 ho5 ho6 hcells6 hg5 hat5 hbel hown hbr hbw
          go_wp2_with fail
          refine hJ'.mono ?_
          rintro e w6 ⟨rfl, hb6⟩
          go_wp2
          go_ret
          exact ⟨rfl, HBel.out.trans (hb6.mono HBel.out.size)⟩
        · have he : body.toList.isEmpty = false := by rw [Lib.toList_data]; simpa using hb
          have hl := HLL.out
          rw [if_neg hb] at hl
          have hbs : body.data.toList.length = body.size := (size_len body).symm
          rw [hbs] at hl
          have hP := fun W hW => impl_numtext (body.size : Int) W (by omega) (by omega) hW
          have hnt : numT (body.size : Int) = Lib.decDigits body.size := by unfold numT; rw [if_pos (by omega)]; simp
          rw [hnt] at hP
          unfold strV at hP
          have hdl := dec_len_le 7 body.size (by omega)
          have hFL := fun W hW => impl_text ⟨bLength.toArray⟩ ⟨(Lib.decDigits body.size).toArray⟩ W (by decide) (by unfold maxLen; rw [size_len]; simp only; omega) hW
          rw [len_fd _ b4] at hFL
          have hFL' : ∀ W, Cls W → Calls Tryz.prog 112 #[.agg #[.string ⟨#[108, 101, 110, 103, 116, 104]⟩, .string ⟨(Lib.decDigits body.size).toArray⟩]] W fun e w' => e = .returned (.string ⟨(bLength ++ 58 :: 32 :: Lib.decDigits body.size).toArray⟩) ∧ Below W.heap.size W w' := hFL
          generalize (⟨(Lib.decDigits body.size).toArray⟩ : ByteArray) = D at *
          generalize hM : (bLength ++ 58 :: 32 :: Lib.decDigits body.size) = M at *
          have hfull : full = joinL ((L0 ++ fs.map fun f => (fdT f).data.toList) ++ [M]) ++ [10] := by rw [HT.out, HLs.out, hl, List.append_assoc]
          have HFull := Lib.hid hfull
          have HCT := Lib.hid (HCl.out _ hbr)
          clear hb hl hfull hFT' hFL hnt hM hdl
          generalize (L0 ++ fs.map fun f => (fdT f).data.toList) = L1 at *
          go_wp2_with fail
          refine (hP _ HCT.out.2).mono ?_
          rintro e w2 ⟨rfl, hb2⟩
          have hcl2 := HCT.out.1.below hb2 (Nat.le_refl _)
          go_wp2_with fail
          refine (hFL' _ hcl2).mono ?_
          rintro e w3 ⟨rfl, hb3⟩
          have hb23 := hb2.trans (hb3.mono hb2.size)
          have hown2 := own_below hown hb23
          have hbr2 := hbr.trans (hb23.mono hwr)
          have hsz2 := hb23.size
          clear hown hbr hb2 hb3 hb23 hP hFL' hcl2 hbw
          go_wp2_with (at_builtin; first | (refine wpList_append1 w3 rfl _ _ 46 rfl (w.heap.size + 1) 9 i0 _ 16 Tryz.underlying46 hi hz0 hz1 hz2 rfl _ _ _ (by rfl) hown2 _ rfl _ (by rfl) (by unfold maxLen; omega) (by omega) (by omega) ?_; intro v' w4 ho3 hb4 hlt3) | go_must (refine wpList_append_lies _ rfl _ _ 46 (by rfl) (w.heap.size + 1) 9 i0 _ 1 16 Tryz.underlying46 hi hz0 hz1 hz2 (by rfl) (by decide) _ (2 + fs.length + 1) _ (by rfl) (ho3.alloc _) ⟨w4.heap.size, 0, none⟩ 2 2 [.string ⟨#[]⟩, .string ⟨#[]⟩] (by rfl) (by rfl) (pair_new w4 ⟨#[]⟩ ⟨#[]⟩ _) (by intro x hx; simp at hx; rcases hx with rfl | rfl <;> rfl) (by omega) (by unfold maxLen; omega) (by omega) (by simp; omega) (w4.heap.size + 1) (by simp) ?_; intro g5 cap5 w5 ho5 hg5 hat5 hlt5))
          have hown4 : w4.ownsRow (w.heap.size + 1) 9 1 v' (2 + fs.length + 1) ((L1 ++ [M]).map strV) := by rw [List.map_append]; exact ho3
          have hbr4 := hbr2.trans hb4
          have ho5' : w5.ownsRow (w.heap.size + 1) 9 1 (.slice (some ⟨g5, 0, none⟩) (2 + fs.length + 1 + 2) cap5) (2 + fs.length + 1 + 2) ((L1 ++ [M]).map strV ++ [.string ⟨#[]⟩, .string ⟨#[]⟩]) := by rw [List.map_append]; exact ho5
          clear ho3 hown2 hbr2 hb4 ho5
          have ho5 := ho5'
          clear ho5'
          generalize (L1 ++ [M]) = L2 at *
          have ho6 : w5.ownsRow (w.heap.size + 1) 9 1 (.slice (some ⟨g5, 0, none⟩) ((2 + fs.length + 1) + 2) cap5) ((2 + fs.length + 1) + 2) ((L2 ++ [[], []]).map strV) := by rw [List.map_append]; exact ho5
          obtain ⟨hn6, g6, cap6, he6, hc6, hlt6, hcells6⟩ := own_texts ho6 (by omega)
          injection he6 with e61 _ e63
          injection e61 with e64
          injection e64 with e65
          subst e65; subst e63
          have hmt := map_texts (L2 ++ [[], []])
          have hjl : Lib.join (L2 ++ [[], []]) [10] = full := by rw [join_two, HFull.out]
          have hml : ((L2 ++ [[], []]).map fun l : List UInt8 => (⟨l.toArray⟩ : ByteArray)).length = (2 + fs.length + 1) + 2 := by rw [List.length_map, ← hn6]
          generalize ((L2 ++ [[], []]).map fun l : List UInt8 => (⟨l.toArray⟩ : ByteArray)) = xs at *
          have hJ := Tryz.strings_Join g5 0 cap5 xs ⟨#[10]⟩ w5 hcells6 hlt6 (by omega) (by omega) (by rw [hmt]; show (Lib.join (L2 ++ [[], []]) [10]).length ≤ _; rw [hjl]; omega)
          rw [hmt] at hJ
          have hJ' : Calls Tryz.prog 113 #[.slice (some ⟨g5, 0, none⟩) ((2 + fs.length + 1) + 2) cap5, .string ⟨#[10]⟩] w5 fun e w' => e = .returned (.string ⟨full.toArray⟩) ∧ Below w5.heap.size w5 w' := by
            rw [← hml, ← hjl]; exact hJ
          have hbel : Below (w.heap.size + 1) wA w5 := (hbr4.alloc (by omega) _).grown hg5 (by simp; omega) (fun r hr => (hown4.lt r hr).1)
          have HBel := Lib.hid (HBA.out.trans (hbel.mono (Nat.le_succ _)))
          clear hJ hmt hjl hml hn6 ho5 ho6 hcells6 hg5 hat5 hbel hown4 hbr4
          go_wp2_with fail
          refine hJ'.mono ?_
          rintro e w6 ⟨rfl, hb6⟩
          go_wp2
          go_ret
          exact ⟨rfl, HBel.out.trans (hb6.mono HBel.out.size)⟩
end Go.Proofs.YtncegikmpapldaaGreatDoor

-- from XHtO
/- Walks: whether a request is ok, and a request written, by the program. -/
namespace Go.Proofs.YtncegikmpapldaaGreatDoor
open Go.RowKit

theorem body_split (v b : List UInt8) : bodyP v b = (bodyB b && (decide (b = []) || v == bPut)) := by
  unfold bodyP bodyB mostN
  by_cases hv : v = bPut
  · subst hv; simp
  · rw [if_neg hv]
    have : (v == bPut) = false := by simpa using hv
    rw [this, Bool.or_false]
    cases b with
    | nil => simp
    | cons x b => simp
def tgtB (t : List UInt8) : Bool := decide (canonL t = some t)
theorem hed_split (h : Hd) : hedB h = (verbB h.verb.data.toList && (tgtB h.target.data.toList && (hostB h.host.data.toList && ((decide (h.fs.length ≤ 6) && fldsB h.fs) && (bodyP h.verb.data.toList h.body.data.toList && decide ((headT h).length ≤ 300)))))) := by
  rw [body_split]
  unfold hedB tgtB fldsB
  generalize verbB h.verb.data.toList = a
  generalize decide (canonL h.target.data.toList = some h.target.data.toList) = b
  generalize hostB h.host.data.toList = c
  generalize decide (h.fs.length ≤ 6) = d
  generalize bodyB h.body.data.toList = e
  generalize (decide (h.body.data.toList = []) || h.verb.data.toList == bPut) = f
  generalize (h.fs.all fun f => fdB f && !ownB f.1.data.toList) = g
  generalize decide ((headT h).length ≤ 300) = i
  cases a <;> cases b <;> cases c <;> cases d <;> cases e <;> cases f <;> cases g <;> cases i <;> rfl

set_option maxRecDepth 100000 in
set_option maxHeartbeats 3200000 in
theorem impl_hedok (h : Hd) (v : Value) (w : World) (hv : FRow w v h.fs) (hok : FOk h.fs 281474976710656)
    (b1 : h.verb.size ≤ 1048576) (b2 : h.target.size ≤ 1048576) (b3 : h.host.size ≤ 1048576) (b4 : h.body.size ≤ 1048576) (hcls : Cls w) (htab : Tab w) :
    Calls Tryz.prog 22 #[.agg #[.string h.verb, .string h.target, .string h.host, v, .string h.body]] w fun e w' => e = .returned (.bool (hedB h)) ∧ Below w.heap.size w w' := by
  have hsp := hed_split h
  have hV := fun W => impl_verb h.verb W
  have hA := fun W hW => impl_target h.target W b2 hW
  have hA2 := fun W hW => impl_hok h.host W b3 hW
  have htg : decide (canonL h.target.data.toList = some h.target.data.toList) = tgtB h.target.data.toList := rfl
  rw [htg] at hA
  clear htg
  have hO := fun W hW hF => impl_others v h.fs W hF hok hW
  have hM := fun W => impl_most h.verb W
  have hB := fun W => impl_body h.verb h.body W (by unfold maxLen; omega)
  have hh6 : (decide (h.fs.length ≤ 6) && fldsB h.fs) = true → h.fs.length ≤ 6 := fun e => by rw [Bool.and_eq_true, decide_eq_true_eq] at e; exact e.1
  have hhb : bodyP h.verb.data.toList h.body.data.toList = true → h.body.size ≤ 20 := fun e => by
    unfold bodyP mostN at e
    rw [Bool.and_eq_true, decide_eq_true_eq, ← size_len] at e
    have := e.1
    split at this <;> omega
  have hH := fun W hF h6 hh h20 hc ht => impl_head h v W hF h6 hok hh (by omega) (by omega) h20 hc ht
  have hhl : (ByteArray.mk (headT h).toArray).size = (headT h).length := by rw [size_len]
  generalize (headT h).length = hlen at *
  generalize (ByteArray.mk (headT h).toArray) = HT at *
  generalize (decide (h.fs.length ≤ 6) && fldsB h.fs) = oB at *
  generalize tgtB h.target.data.toList = aB at *
  generalize hostB h.host.data.toList = sB at *
  generalize bodyP h.verb.data.toList h.body.data.toList = bB at *
  generalize verbB h.verb.data.toList = vB at *
  generalize mostN h.verb.data.toList = mN at *
  generalize hedB h = R at *
  obtain ⟨wA, hwA⟩ : ∃ wA, wA = w.alloc (.cells #[.string h.verb, .string h.target, .string h.host, v, .string h.body] 40) := ⟨_, rfl⟩
  have hsA : wA.heap.size = w.heap.size + 1 := by rw [hwA]; simp
  have hbA : Below w.heap.size w wA := by rw [hwA]; exact (Below.refl _ _).alloc (Nat.le_refl _) _
  have hcell : ∀ W, Below wA.heap.size wA W → W.heap[w.heap.size]? = some (.cells #[.string h.verb, .string h.target, .string h.host, v, .string h.body] 40 (0, 0)) := fun W hW =>
    (hW.block w.heap.size (by omega)).trans (by rw [hwA]; exact heap_alloc_new w _)
  have HCell := Lib.hid hcell
  have HW : Hid (∀ W, Below wA.heap.size wA W → Cls W ∧ Tab W ∧ FRow W v h.fs ∧ Below w.heap.size w W) := Lib.hid fun W hW => by
    have hb := hbA.trans (hW.mono (by omega))
    exact ⟨hcls.below hb (Nat.le_refl _), htab.below hb (Nat.le_refl _), hv.below (Nat.le_refl _) hb, hb⟩
  have HwA := Lib.hid hwA
  have HS := Lib.hid hsp
  have Hh6 := Lib.hid hh6; have Hhb := Lib.hid hhb; have HHl := Lib.hid hhl
  clear hcell hwA hbA hcls htab hv hsp hh6 hhb hhl
  go_enter Tryz.func22, Tryz.ntmps22
  go_wp2_with fail
  rw [← HwA.out]
  have hb0 : Below wA.heap.size wA wA := Below.refl _ _
  obtain ⟨t0, t1, t2, t3, t4, f0, f1, f2, f3, f4⟩ := five_facts (HCell.out _ hb0)
  refine (hV _).mono ?_
  rintro e w1 ⟨rfl, rfl⟩
  cases vB
  · have HF : Hid (R = false) := Lib.hid HS.out
    clear hV hA hA2 hO hB hM hH
    go_wp2_with fail
    have HX1 : Hid (∀ W, Below wA.heap.size wA W → W.heap[w.heap.size]? = some (.cells #[.string h.verb, .string h.target, .string h.host, v, .string h.body] 40 (0, 0)) ∧ Cls W ∧ Tab W ∧ FRow W v h.fs ∧ Below w.heap.size w W) := Lib.hid fun W hW => by
      have hk := hb0.trans (hW.mono (by have := hb0.size; omega))
      exact ⟨HCell.out W hk, HW.out W hk⟩
    clear hb0
    clear t0 t1 t2 t3 t4 f0 f1 f2 f3 f4
    refine wp_region_last (by kernel_rfl) 20 (by kernel_rfl) (by kernel_rfl) (by kernel_rfl)
      (fun z => { tmps := #[Value.agg #[Value.string h.verb, Value.string h.target, Value.string h.host, v, Value.string h.body], Value.pointer (some { block := w.heap.size, off := 0 }), Value.bool false, Value.bool false, Value.pointer (some { block := w.heap.size, off := 0 }), Value.string h.verb, Value.bool false, Value.bool false, undef, undef, undef, Value.bool false, Value.bool false, undef, undef, undef, Value.bool false, z 0, z 1, z 2, z 3, z 4, z 5, z 6, z 7, z 8, z 9, z 10, z 11, z 12, z 13, z 14, z 15, z 16, z 17, z 18, z 19], defers := [] })
      (fun _ W => Below wA.heap.size wA W)
      (fun i xv _ => xv = ([.bool false, .bool false, undef, undef, undef, .bool false, .bool false, undef, undef, undef, undef, undef, undef, .bool false, .bool false, undef, undef, undef, undef, .bool false] : List Value).getD i undef)
      (fun _ _ => True) (fun _ => undef) (Below.refl _ _).drew
      (fun _ _ _ _ _ h _ => h) ?_ ?_
    · intro i hi z w7 kk hkk hC hdp
      match i, hi with
      | 0, _ =>
        refine wpOp_step rfl (fun K hK => ?_)
        clear hdp
        go_simp
        exact hK _ _ ⟨.bool false, rfl, rfl, trivial, hC⟩
      | 1, _ =>
        have e0 : z 0 = .bool false := hdp 0 (dep_of (by kernel_rfl))
        refine wpOp_step rfl (fun K hK => ?_)
        clear hdp
        go_simp
        exact hK _ _ ⟨.bool false, by simp [upd, e0], rfl, trivial, hC⟩
      | 2, _ =>
        have e1 : z 1 = .bool false := hdp 1 (dep_of (by kernel_rfl))
        refine wpOp_step rfl (fun K hK => ?_)
        clear hdp
        go_simp
        exact hK _ _ ⟨undef, by simp [upd, e1], rfl, trivial, hC⟩
      | 3, _ =>
        have e1 : z 1 = .bool false := hdp 1 (dep_of (by kernel_rfl))
        refine wpOp_step rfl (fun K hK => ?_)
        clear hdp
        go_simp
        exact hK _ _ ⟨undef, by simp [upd, e1], rfl, trivial, hC⟩
      | 4, _ =>
        have e1 : z 1 = .bool false := hdp 1 (dep_of (by kernel_rfl))
        refine wpOp_step rfl (fun K hK => ?_)
        clear hdp
        go_simp
        exact hK _ _ ⟨undef, by simp [upd, e1], rfl, trivial, hC⟩
      | 5, _ =>
        have e1 : z 1 = .bool false := hdp 1 (dep_of (by kernel_rfl))
        have e4 : z 4 = undef := hdp 4 (dep_of (by kernel_rfl))
        refine wpOp_step rfl (fun K hK => ?_)
        clear hdp
        go_simp
        exact hK _ _ ⟨.bool false, by simp [upd, e1, e4], rfl, trivial, hC⟩
      | 6, _ =>
        have e5 : z 5 = .bool false := hdp 5 (dep_of (by kernel_rfl))
        refine wpOp_step rfl (fun K hK => ?_)
        clear hdp
        go_simp
        exact hK _ _ ⟨.bool false, by simp [upd, e5], rfl, trivial, hC⟩
      | 7, _ =>
        have e6 : z 6 = .bool false := hdp 6 (dep_of (by kernel_rfl))
        refine wpOp_step rfl (fun K hK => ?_)
        clear hdp
        go_simp
        exact hK _ _ ⟨undef, by simp [upd, e6], rfl, trivial, hC⟩
      | 8, _ =>
        have e6 : z 6 = .bool false := hdp 6 (dep_of (by kernel_rfl))
        refine wpOp_step rfl (fun K hK => ?_)
        clear hdp
        go_simp
        exact hK _ _ ⟨undef, by simp [upd, e6], rfl, trivial, hC⟩
      | 9, _ =>
        have e6 : z 6 = .bool false := hdp 6 (dep_of (by kernel_rfl))
        refine wpOp_step rfl (fun K hK => ?_)
        clear hdp
        go_simp
        exact hK _ _ ⟨undef, by simp [upd, e6], rfl, trivial, hC⟩
      | 10, _ =>
        have e6 : z 6 = .bool false := hdp 6 (dep_of (by kernel_rfl))
        refine wpOp_step rfl (fun K hK => ?_)
        clear hdp
        go_simp
        exact hK _ _ ⟨undef, by simp [upd, e6], rfl, trivial, hC⟩
      | 11, _ =>
        have e6 : z 6 = .bool false := hdp 6 (dep_of (by kernel_rfl))
        refine wpOp_step rfl (fun K hK => ?_)
        clear hdp
        go_simp
        exact hK _ _ ⟨undef, by simp [upd, e6], rfl, trivial, hC⟩
      | 12, _ =>
        have e6 : z 6 = .bool false := hdp 6 (dep_of (by kernel_rfl))
        refine wpOp_step rfl (fun K hK => ?_)
        clear hdp
        go_simp
        exact hK _ _ ⟨undef, by simp [upd, e6], rfl, trivial, hC⟩
      | 13, _ =>
        have e6 : z 6 = .bool false := hdp 6 (dep_of (by kernel_rfl))
        have e12 : z 12 = undef := hdp 12 (dep_of (by kernel_rfl))
        refine wpOp_step rfl (fun K hK => ?_)
        clear hdp
        go_simp
        exact hK _ _ ⟨.bool false, by simp [upd, e6, e12], rfl, trivial, hC⟩
      | 14, _ =>
        have e13 : z 13 = .bool false := hdp 13 (dep_of (by kernel_rfl))
        refine wpOp_step rfl (fun K hK => ?_)
        clear hdp
        go_simp
        exact hK _ _ ⟨.bool false, by simp [upd, e13], rfl, trivial, hC⟩
      | 15, _ =>
        have e14 : z 14 = .bool false := hdp 14 (dep_of (by kernel_rfl))
        refine wpOp_step rfl (fun K hK => ?_)
        clear hdp
        go_simp
        exact hK _ _ ⟨undef, by simp [upd, e14], rfl, trivial, hC⟩
      | 16, _ =>
        have e14 : z 14 = .bool false := hdp 14 (dep_of (by kernel_rfl))
        refine wpOp_step rfl (fun K hK => ?_)
        clear hdp
        go_simp
        exact hK _ _ ⟨undef, by simp [upd, e14], rfl, trivial, hC⟩
      | 17, _ =>
        have e14 : z 14 = .bool false := hdp 14 (dep_of (by kernel_rfl))
        refine wpOp_step rfl (fun K hK => ?_)
        clear hdp
        go_simp
        exact hK _ _ ⟨undef, by simp [upd, e14], rfl, trivial, hC⟩
      | 18, _ =>
        have e14 : z 14 = .bool false := hdp 14 (dep_of (by kernel_rfl))
        refine wpOp_step rfl (fun K hK => ?_)
        clear hdp
        go_simp
        exact hK _ _ ⟨undef, by simp [upd, e14], rfl, trivial, hC⟩
      | 19, _ =>
        have e14 : z 14 = .bool false := hdp 14 (dep_of (by kernel_rfl))
        have e18 : z 18 = undef := hdp 18 (dep_of (by kernel_rfl))
        refine wpOp_step rfl (fun K hK => ?_)
        clear hdp
        go_simp
        exact hK _ _ ⟨.bool false, by simp [upd, e14, e18], rfl, trivial, hC⟩
      | n + 20, hn => exact absurd hn (by omega)
    · intro z w7 kk hkk hC hdp
      have e19 : z 19 = .bool false := hdp 19 (by decide)
      refine wpOp_step rfl (fun K hK => ?_)
      clear hdp
      go_simp
      refine hK _ _ ?_
      clear hK K e19
      have HB := Lib.hid (HX1.out _ hC).2.2.2.2
      clear hC
      go_wp2
      go_ret
      rw [HF.out]; exact ⟨rfl, HB.out⟩
  go_wp2_with fail
  refine (hA _ (HW.out _ hb0).1).mono ?_
  rintro e w1 ⟨rfl, hb1⟩
  have hb01 := hb0.trans (hb1.mono (Nat.le_refl _))
  clear t0 t1 t2 t3 t4 f0 f1 f2 f3 f4
  obtain ⟨t0, t1, t2, t3, t4, f0, f1, f2, f3, f4⟩ := five_facts (HCell.out _ hb01)
  clear hb1 hb0 hV hA
  cases aB
  · have HF : Hid (R = false) := Lib.hid HS.out
    clear hA2 hO hB hM hH
    go_wp2_with fail
    have HX1 : Hid (∀ W, Below w1.heap.size w1 W → W.heap[w.heap.size]? = some (.cells #[.string h.verb, .string h.target, .string h.host, v, .string h.body] 40 (0, 0)) ∧ Cls W ∧ Tab W ∧ FRow W v h.fs ∧ Below w.heap.size w W) := Lib.hid fun W hW => by
      have hk := hb01.trans (hW.mono (by have := hb01.size; omega))
      exact ⟨HCell.out W hk, HW.out W hk⟩
    clear hb01
    clear t0 t1 t2 t3 t4 f0 f1 f2 f3 f4
    refine wp_region_last (by kernel_rfl) 20 (by kernel_rfl) (by kernel_rfl) (by kernel_rfl)
      (fun z => { tmps := #[Value.agg #[Value.string h.verb, Value.string h.target, Value.string h.host, v, Value.string h.body], Value.pointer (some { block := w.heap.size, off := 0 }), Value.bool false, Value.bool false, Value.pointer (some { block := w.heap.size, off := 0 }), Value.string h.verb, Value.bool true, Value.bool true, Value.pointer (some { block := w.heap.size, off := 1 }), Value.string h.target, Value.bool false, Value.bool false, Value.bool false, undef, undef, undef, Value.bool false, z 0, z 1, z 2, z 3, z 4, z 5, z 6, z 7, z 8, z 9, z 10, z 11, z 12, z 13, z 14, z 15, z 16, z 17, z 18, z 19], defers := [] })
      (fun _ W => Below w1.heap.size w1 W)
      (fun i xv _ => xv = ([.bool false, .bool false, undef, undef, undef, .bool false, .bool false, undef, undef, undef, undef, undef, undef, .bool false, .bool false, undef, undef, undef, undef, .bool false] : List Value).getD i undef)
      (fun _ _ => True) (fun _ => undef) (Below.refl _ _).drew
      (fun _ _ _ _ _ h _ => h) ?_ ?_
    · intro i hi z w7 kk hkk hC hdp
      match i, hi with
      | 0, _ =>
        refine wpOp_step rfl (fun K hK => ?_)
        clear hdp
        go_simp
        exact hK _ _ ⟨.bool false, rfl, rfl, trivial, hC⟩
      | 1, _ =>
        have e0 : z 0 = .bool false := hdp 0 (dep_of (by kernel_rfl))
        refine wpOp_step rfl (fun K hK => ?_)
        clear hdp
        go_simp
        exact hK _ _ ⟨.bool false, by simp [upd, e0], rfl, trivial, hC⟩
      | 2, _ =>
        have e1 : z 1 = .bool false := hdp 1 (dep_of (by kernel_rfl))
        refine wpOp_step rfl (fun K hK => ?_)
        clear hdp
        go_simp
        exact hK _ _ ⟨undef, by simp [upd, e1], rfl, trivial, hC⟩
      | 3, _ =>
        have e1 : z 1 = .bool false := hdp 1 (dep_of (by kernel_rfl))
        refine wpOp_step rfl (fun K hK => ?_)
        clear hdp
        go_simp
        exact hK _ _ ⟨undef, by simp [upd, e1], rfl, trivial, hC⟩
      | 4, _ =>
        have e1 : z 1 = .bool false := hdp 1 (dep_of (by kernel_rfl))
        refine wpOp_step rfl (fun K hK => ?_)
        clear hdp
        go_simp
        exact hK _ _ ⟨undef, by simp [upd, e1], rfl, trivial, hC⟩
      | 5, _ =>
        have e1 : z 1 = .bool false := hdp 1 (dep_of (by kernel_rfl))
        have e4 : z 4 = undef := hdp 4 (dep_of (by kernel_rfl))
        refine wpOp_step rfl (fun K hK => ?_)
        clear hdp
        go_simp
        exact hK _ _ ⟨.bool false, by simp [upd, e1, e4], rfl, trivial, hC⟩
      | 6, _ =>
        have e5 : z 5 = .bool false := hdp 5 (dep_of (by kernel_rfl))
        refine wpOp_step rfl (fun K hK => ?_)
        clear hdp
        go_simp
        exact hK _ _ ⟨.bool false, by simp [upd, e5], rfl, trivial, hC⟩
      | 7, _ =>
        have e6 : z 6 = .bool false := hdp 6 (dep_of (by kernel_rfl))
        refine wpOp_step rfl (fun K hK => ?_)
        clear hdp
        go_simp
        exact hK _ _ ⟨undef, by simp [upd, e6], rfl, trivial, hC⟩
      | 8, _ =>
        have e6 : z 6 = .bool false := hdp 6 (dep_of (by kernel_rfl))
        refine wpOp_step rfl (fun K hK => ?_)
        clear hdp
        go_simp
        exact hK _ _ ⟨undef, by simp [upd, e6], rfl, trivial, hC⟩
      | 9, _ =>
        have e6 : z 6 = .bool false := hdp 6 (dep_of (by kernel_rfl))
        refine wpOp_step rfl (fun K hK => ?_)
        clear hdp
        go_simp
        exact hK _ _ ⟨undef, by simp [upd, e6], rfl, trivial, hC⟩
      | 10, _ =>
        have e6 : z 6 = .bool false := hdp 6 (dep_of (by kernel_rfl))
        refine wpOp_step rfl (fun K hK => ?_)
        clear hdp
        go_simp
        exact hK _ _ ⟨undef, by simp [upd, e6], rfl, trivial, hC⟩
      | 11, _ =>
        have e6 : z 6 = .bool false := hdp 6 (dep_of (by kernel_rfl))
        refine wpOp_step rfl (fun K hK => ?_)
        clear hdp
        go_simp
        exact hK _ _ ⟨undef, by simp [upd, e6], rfl, trivial, hC⟩
      | 12, _ =>
        have e6 : z 6 = .bool false := hdp 6 (dep_of (by kernel_rfl))
        refine wpOp_step rfl (fun K hK => ?_)
        clear hdp
        go_simp
        exact hK _ _ ⟨undef, by simp [upd, e6], rfl, trivial, hC⟩
      | 13, _ =>
        have e6 : z 6 = .bool false := hdp 6 (dep_of (by kernel_rfl))
        have e12 : z 12 = undef := hdp 12 (dep_of (by kernel_rfl))
        refine wpOp_step rfl (fun K hK => ?_)
        clear hdp
        go_simp
        exact hK _ _ ⟨.bool false, by simp [upd, e6, e12], rfl, trivial, hC⟩
      | 14, _ =>
        have e13 : z 13 = .bool false := hdp 13 (dep_of (by kernel_rfl))
        refine wpOp_step rfl (fun K hK => ?_)
        clear hdp
        go_simp
        exact hK _ _ ⟨.bool false, by simp [upd, e13], rfl, trivial, hC⟩
      | 15, _ =>
        have e14 : z 14 = .bool false := hdp 14 (dep_of (by kernel_rfl))
        refine wpOp_step rfl (fun K hK => ?_)
        clear hdp
        go_simp
        exact hK _ _ ⟨undef, by simp [upd, e14], rfl, trivial, hC⟩
      | 16, _ =>
        have e14 : z 14 = .bool false := hdp 14 (dep_of (by kernel_rfl))
        refine wpOp_step rfl (fun K hK => ?_)
        clear hdp
        go_simp
        exact hK _ _ ⟨undef, by simp [upd, e14], rfl, trivial, hC⟩
      | 17, _ =>
        have e14 : z 14 = .bool false := hdp 14 (dep_of (by kernel_rfl))
        refine wpOp_step rfl (fun K hK => ?_)
        clear hdp
        go_simp
        exact hK _ _ ⟨undef, by simp [upd, e14], rfl, trivial, hC⟩
      | 18, _ =>
        have e14 : z 14 = .bool false := hdp 14 (dep_of (by kernel_rfl))
        refine wpOp_step rfl (fun K hK => ?_)
        clear hdp
        go_simp
        exact hK _ _ ⟨undef, by simp [upd, e14], rfl, trivial, hC⟩
      | 19, _ =>
        have e14 : z 14 = .bool false := hdp 14 (dep_of (by kernel_rfl))
        have e18 : z 18 = undef := hdp 18 (dep_of (by kernel_rfl))
        refine wpOp_step rfl (fun K hK => ?_)
        clear hdp
        go_simp
        exact hK _ _ ⟨.bool false, by simp [upd, e14, e18], rfl, trivial, hC⟩
      | n + 20, hn => exact absurd hn (by omega)
    · intro z w7 kk hkk hC hdp
      have e19 : z 19 = .bool false := hdp 19 (by decide)
      refine wpOp_step rfl (fun K hK => ?_)
      clear hdp
      go_simp
      refine hK _ _ ?_
      clear hK K e19
      have HB := Lib.hid (HX1.out _ hC).2.2.2.2
      clear hC
      go_wp2
      go_ret
      rw [HF.out]; exact ⟨rfl, HB.out⟩
  go_wp2_with fail
  refine (hA2 _ (HW.out _ hb01).1).mono ?_
  rintro e w1b ⟨rfl, hb1⟩
  have hb0b := hb01.trans (hb1.mono hb01.size)
  clear t0 t1 t2 t3 t4 f0 f1 f2 f3 f4
  obtain ⟨t0, t1, t2, t3, t4, f0, f1, f2, f3, f4⟩ := five_facts (HCell.out _ hb0b)
  clear hb1 hb01 hA2
  cases sB
  · have HF : Hid (R = false) := Lib.hid HS.out
    clear hO hB hM hH
    go_wp2_with fail
    have HX1 : Hid (∀ W, Below w1b.heap.size w1b W → W.heap[w.heap.size]? = some (.cells #[.string h.verb, .string h.target, .string h.host, v, .string h.body] 40 (0, 0)) ∧ Cls W ∧ Tab W ∧ FRow W v h.fs ∧ Below w.heap.size w W) := Lib.hid fun W hW => by
      have hk := hb0b.trans (hW.mono (by have := hb0b.size; omega))
      exact ⟨HCell.out W hk, HW.out W hk⟩
    clear hb0b
    clear t0 t1 t2 t3 t4 f0 f1 f2 f3 f4
    refine wp_region_last (by kernel_rfl) 20 (by kernel_rfl) (by kernel_rfl) (by kernel_rfl)
      (fun z => { tmps := #[Value.agg #[Value.string h.verb, Value.string h.target, Value.string h.host, v, Value.string h.body], Value.pointer (some { block := w.heap.size, off := 0 }), Value.bool false, Value.bool false, Value.pointer (some { block := w.heap.size, off := 0 }), Value.string h.verb, Value.bool true, Value.bool true, Value.pointer (some { block := w.heap.size, off := 1 }), Value.string h.target, Value.bool true, Value.bool true, Value.bool true, Value.pointer (some { block := w.heap.size, off := 2 }), Value.string h.host, Value.bool false, Value.bool false, z 0, z 1, z 2, z 3, z 4, z 5, z 6, z 7, z 8, z 9, z 10, z 11, z 12, z 13, z 14, z 15, z 16, z 17, z 18, z 19], defers := [] })
      (fun _ W => Below w1b.heap.size w1b W)
      (fun i xv _ => xv = ([.bool false, .bool false, undef, undef, undef, .bool false, .bool false, undef, undef, undef, undef, undef, undef, .bool false, .bool false, undef, undef, undef, undef, .bool false] : List Value).getD i undef)
      (fun _ _ => True) (fun _ => undef) (Below.refl _ _).drew
      (fun _ _ _ _ _ h _ => h) ?_ ?_
    · intro i hi z w7 kk hkk hC hdp
      match i, hi with
      | 0, _ =>
        refine wpOp_step rfl (fun K hK => ?_)
        clear hdp
        go_simp
        exact hK _ _ ⟨.bool false, rfl, rfl, trivial, hC⟩
      | 1, _ =>
        have e0 : z 0 = .bool false := hdp 0 (dep_of (by kernel_rfl))
        refine wpOp_step rfl (fun K hK => ?_)
        clear hdp
        go_simp
        exact hK _ _ ⟨.bool false, by simp [upd, e0], rfl, trivial, hC⟩
      | 2, _ =>
        have e1 : z 1 = .bool false := hdp 1 (dep_of (by kernel_rfl))
        refine wpOp_step rfl (fun K hK => ?_)
        clear hdp
        go_simp
        exact hK _ _ ⟨undef, by simp [upd, e1], rfl, trivial, hC⟩
      | 3, _ =>
        have e1 : z 1 = .bool false := hdp 1 (dep_of (by kernel_rfl))
        refine wpOp_step rfl (fun K hK => ?_)
        clear hdp
        go_simp
        exact hK _ _ ⟨undef, by simp [upd, e1], rfl, trivial, hC⟩
      | 4, _ =>
        have e1 : z 1 = .bool false := hdp 1 (dep_of (by kernel_rfl))
        refine wpOp_step rfl (fun K hK => ?_)
        clear hdp
        go_simp
        exact hK _ _ ⟨undef, by simp [upd, e1], rfl, trivial, hC⟩
      | 5, _ =>
        have e1 : z 1 = .bool false := hdp 1 (dep_of (by kernel_rfl))
        have e4 : z 4 = undef := hdp 4 (dep_of (by kernel_rfl))
        refine wpOp_step rfl (fun K hK => ?_)
        clear hdp
        go_simp
        exact hK _ _ ⟨.bool false, by simp [upd, e1, e4], rfl, trivial, hC⟩
      | 6, _ =>
        have e5 : z 5 = .bool false := hdp 5 (dep_of (by kernel_rfl))
        refine wpOp_step rfl (fun K hK => ?_)
        clear hdp
        go_simp
        exact hK _ _ ⟨.bool false, by simp [upd, e5], rfl, trivial, hC⟩
      | 7, _ =>
        have e6 : z 6 = .bool false := hdp 6 (dep_of (by kernel_rfl))
        refine wpOp_step rfl (fun K hK => ?_)
        clear hdp
        go_simp
        exact hK _ _ ⟨undef, by simp [upd, e6], rfl, trivial, hC⟩
      | 8, _ =>
        have e6 : z 6 = .bool false := hdp 6 (dep_of (by kernel_rfl))
        refine wpOp_step rfl (fun K hK => ?_)
        clear hdp
        go_simp
        exact hK _ _ ⟨undef, by simp [upd, e6], rfl, trivial, hC⟩
      | 9, _ =>
        have e6 : z 6 = .bool false := hdp 6 (dep_of (by kernel_rfl))
        refine wpOp_step rfl (fun K hK => ?_)
        clear hdp
        go_simp
        exact hK _ _ ⟨undef, by simp [upd, e6], rfl, trivial, hC⟩
      | 10, _ =>
        have e6 : z 6 = .bool false := hdp 6 (dep_of (by kernel_rfl))
        refine wpOp_step rfl (fun K hK => ?_)
        clear hdp
        go_simp
        exact hK _ _ ⟨undef, by simp [upd, e6], rfl, trivial, hC⟩
      | 11, _ =>
        have e6 : z 6 = .bool false := hdp 6 (dep_of (by kernel_rfl))
        refine wpOp_step rfl (fun K hK => ?_)
        clear hdp
        go_simp
        exact hK _ _ ⟨undef, by simp [upd, e6], rfl, trivial, hC⟩
      | 12, _ =>
        have e6 : z 6 = .bool false := hdp 6 (dep_of (by kernel_rfl))
        refine wpOp_step rfl (fun K hK => ?_)
        clear hdp
        go_simp
        exact hK _ _ ⟨undef, by simp [upd, e6], rfl, trivial, hC⟩
      | 13, _ =>
        have e6 : z 6 = .bool false := hdp 6 (dep_of (by kernel_rfl))
        have e12 : z 12 = undef := hdp 12 (dep_of (by kernel_rfl))
        refine wpOp_step rfl (fun K hK => ?_)
        clear hdp
        go_simp
        exact hK _ _ ⟨.bool false, by simp [upd, e6, e12], rfl, trivial, hC⟩
      | 14, _ =>
        have e13 : z 13 = .bool false := hdp 13 (dep_of (by kernel_rfl))
        refine wpOp_step rfl (fun K hK => ?_)
        clear hdp
        go_simp
        exact hK _ _ ⟨.bool false, by simp [upd, e13], rfl, trivial, hC⟩
      | 15, _ =>
        have e14 : z 14 = .bool false := hdp 14 (dep_of (by kernel_rfl))
        refine wpOp_step rfl (fun K hK => ?_)
        clear hdp
        go_simp
        exact hK _ _ ⟨undef, by simp [upd, e14], rfl, trivial, hC⟩
      | 16, _ =>
        have e14 : z 14 = .bool false := hdp 14 (dep_of (by kernel_rfl))
        refine wpOp_step rfl (fun K hK => ?_)
        clear hdp
        go_simp
        exact hK _ _ ⟨undef, by simp [upd, e14], rfl, trivial, hC⟩
      | 17, _ =>
        have e14 : z 14 = .bool false := hdp 14 (dep_of (by kernel_rfl))
        refine wpOp_step rfl (fun K hK => ?_)
        clear hdp
        go_simp
        exact hK _ _ ⟨undef, by simp [upd, e14], rfl, trivial, hC⟩
      | 18, _ =>
        have e14 : z 14 = .bool false := hdp 14 (dep_of (by kernel_rfl))
        refine wpOp_step rfl (fun K hK => ?_)
        clear hdp
        go_simp
        exact hK _ _ ⟨undef, by simp [upd, e14], rfl, trivial, hC⟩
      | 19, _ =>
        have e14 : z 14 = .bool false := hdp 14 (dep_of (by kernel_rfl))
        have e18 : z 18 = undef := hdp 18 (dep_of (by kernel_rfl))
        refine wpOp_step rfl (fun K hK => ?_)
        clear hdp
        go_simp
        exact hK _ _ ⟨.bool false, by simp [upd, e14, e18], rfl, trivial, hC⟩
      | n + 20, hn => exact absurd hn (by omega)
    · intro z w7 kk hkk hC hdp
      have e19 : z 19 = .bool false := hdp 19 (by decide)
      refine wpOp_step rfl (fun K hK => ?_)
      clear hdp
      go_simp
      refine hK _ _ ?_
      clear hK K e19
      have HB := Lib.hid (HX1.out _ hC).2.2.2.2
      clear hC
      go_wp2
      go_ret
      rw [HF.out]; exact ⟨rfl, HB.out⟩
  go_wp2_with fail
  have HX1 : Hid (∀ W, Below w1b.heap.size w1b W → W.heap[w.heap.size]? = some (.cells #[.string h.verb, .string h.target, .string h.host, v, .string h.body] 40 (0, 0)) ∧ Cls W ∧ Tab W ∧ FRow W v h.fs ∧ Below w.heap.size w W) := Lib.hid fun W hW => by
    have hk := hb0b.trans (hW.mono (by have := hb0b.size; omega))
    exact ⟨HCell.out W hk, HW.out W hk⟩
  clear hb0b
  clear t0 t1 t2 t3 t4 f0 f1 f2 f3 f4
  have HO := Lib.hid hO; have HB0 := Lib.hid hB; have HM := Lib.hid hM; have HH := Lib.hid hH
  clear hO hB hM hH
  cases oB
  · have HF : Hid (R = false) := Lib.hid HS.out
    clear HH HM HB0
    refine wp_region_last (by kernel_rfl) 20 (by kernel_rfl) (by kernel_rfl) (by kernel_rfl)
      (fun z => { tmps := #[Value.agg #[Value.string h.verb, Value.string h.target, Value.string h.host, v, Value.string h.body], Value.pointer (some { block := w.heap.size, off := 0 }), Value.bool false, Value.bool true, Value.pointer (some { block := w.heap.size, off := 0 }), Value.string h.verb, Value.bool true, Value.bool true, Value.pointer (some { block := w.heap.size, off := 1 }), Value.string h.target, Value.bool true, Value.bool true, Value.bool true, Value.pointer (some { block := w.heap.size, off := 2 }), Value.string h.host, Value.bool true, Value.bool true, z 0, z 1, z 2, z 3, z 4, z 5, z 6, z 7, z 8, z 9, z 10, z 11, z 12, z 13, z 14, z 15, z 16, z 17, z 18, z 19], defers := [] })
      (fun _ W => Below w1b.heap.size w1b W)
      (fun i xv _ => xv = ([.bool true, .bool true, .pointer (some ⟨w.heap.size, 3, none⟩), v, .bool false, .bool false, .bool false, undef, undef, undef, undef, undef, undef, .bool false, .bool false, undef, undef, undef, undef, .bool false] : List Value).getD i undef)
      (fun _ _ => True) (fun _ => undef) (Below.refl _ _).drew
      (fun _ _ _ _ _ h _ => h) ?_ ?_
    · intro i hi z w7 kk hkk hC hdp
      match i, hi with
      | 0, _ =>
        refine wpOp_step rfl (fun K hK => ?_)
        clear hdp
        go_simp
        exact hK _ _ ⟨.bool true, rfl, rfl, trivial, hC⟩
      | 1, _ =>
        have e0 : z 0 = .bool true := hdp 0 (dep_of (by kernel_rfl))
        refine wpOp_step rfl (fun K hK => ?_)
        clear hdp
        go_simp
        exact hK _ _ ⟨.bool true, by simp [upd, e0], rfl, trivial, hC⟩
      | 2, _ =>
        have e1 : z 1 = .bool true := hdp 1 (dep_of (by kernel_rfl))
        refine wpOp_step rfl (fun K hK => ?_)
        clear hdp
        go_simp
        exact hK _ _ ⟨.pointer (some ⟨w.heap.size, 3, none⟩), by simp [upd, e1], rfl, trivial, hC⟩
      | 3, _ =>
        obtain ⟨t0, t1, t2, t3, t4, _⟩ := five_facts (HX1.out w7 hC).1
        have e1 : z 1 = .bool true := hdp 1 (dep_of (by kernel_rfl))
        have e2 : z 2 = .pointer (some ⟨w.heap.size, 3, none⟩) := hdp 2 (dep_of (by kernel_rfl))
        refine wpOp_step rfl (fun K hK => ?_)
        clear hdp
        go_simp
        exact hK _ _ ⟨v, by simp [upd, e1, e2], rfl, trivial, hC⟩
      | 4, _ =>
        have e1 : z 1 = .bool true := hdp 1 (dep_of (by kernel_rfl))
        have e3 : z 3 = v := hdp 3 (dep_of (by kernel_rfl))
        have hT := HO.out w7 (HX1.out w7 hC).2.1 (HX1.out w7 hC).2.2.2.1
        refine wpOp_step rfl (fun K hK => ?_)
        clear hdp
        go_simp
        refine hT.mono ?_
        rintro e w8 ⟨rfl, hb8⟩
        exact hK _ _ ⟨.bool false, by simp [upd, e1, e3], rfl, trivial, hC.trans (hb8.mono hC.size)⟩
      | 5, _ =>
        have e1 : z 1 = .bool true := hdp 1 (dep_of (by kernel_rfl))
        have e4 : z 4 = .bool false := hdp 4 (dep_of (by kernel_rfl))
        refine wpOp_step rfl (fun K hK => ?_)
        clear hdp
        go_simp
        exact hK _ _ ⟨.bool false, by simp [upd, e1, e4], rfl, trivial, hC⟩
      | 6, _ =>
        have e5 : z 5 = .bool false := hdp 5 (dep_of (by kernel_rfl))
        refine wpOp_step rfl (fun K hK => ?_)
        clear hdp
        go_simp
        exact hK _ _ ⟨.bool false, by simp [upd, e5], rfl, trivial, hC⟩
      | 7, _ =>
        have e6 : z 6 = .bool false := hdp 6 (dep_of (by kernel_rfl))
        refine wpOp_step rfl (fun K hK => ?_)
        clear hdp
        go_simp
        exact hK _ _ ⟨undef, by simp [upd, e6], rfl, trivial, hC⟩
      | 8, _ =>
        have e6 : z 6 = .bool false := hdp 6 (dep_of (by kernel_rfl))
        refine wpOp_step rfl (fun K hK => ?_)
        clear hdp
        go_simp
        exact hK _ _ ⟨undef, by simp [upd, e6], rfl, trivial, hC⟩
      | 9, _ =>
        have e6 : z 6 = .bool false := hdp 6 (dep_of (by kernel_rfl))
        refine wpOp_step rfl (fun K hK => ?_)
        clear hdp
        go_simp
        exact hK _ _ ⟨undef, by simp [upd, e6], rfl, trivial, hC⟩
      | 10, _ =>
        have e6 : z 6 = .bool false := hdp 6 (dep_of (by kernel_rfl))
        refine wpOp_step rfl (fun K hK => ?_)
        clear hdp
        go_simp
        exact hK _ _ ⟨undef, by simp [upd, e6], rfl, trivial, hC⟩
      | 11, _ =>
        have e6 : z 6 = .bool false := hdp 6 (dep_of (by kernel_rfl))
        refine wpOp_step rfl (fun K hK => ?_)
        clear hdp
        go_simp
        exact hK _ _ ⟨undef, by simp [upd, e6], rfl, trivial, hC⟩
      | 12, _ =>
        have e6 : z 6 = .bool false := hdp 6 (dep_of (by kernel_rfl))
        refine wpOp_step rfl (fun K hK => ?_)
        clear hdp
        go_simp
        exact hK _ _ ⟨undef, by simp [upd, e6], rfl, trivial, hC⟩
      | 13, _ =>
        have e6 : z 6 = .bool false := hdp 6 (dep_of (by kernel_rfl))
        have e12 : z 12 = undef := hdp 12 (dep_of (by kernel_rfl))
        refine wpOp_step rfl (fun K hK => ?_)
        clear hdp
        go_simp
        exact hK _ _ ⟨.bool false, by simp [upd, e6, e12], rfl, trivial, hC⟩
      | 14, _ =>
        have e13 : z 13 = .bool false := hdp 13 (dep_of (by kernel_rfl))
        refine wpOp_step rfl (fun K hK => ?_)
        clear hdp
        go_simp
        exact hK _ _ ⟨.bool false, by simp [upd, e13], rfl, trivial, hC⟩
      | 15, _ =>
        have e14 : z 14 = .bool false := hdp 14 (dep_of (by kernel_rfl))
        refine wpOp_step rfl (fun K hK => ?_)
        clear hdp
        go_simp
        exact hK _ _ ⟨undef, by simp [upd, e14], rfl, trivial, hC⟩
      | 16, _ =>
        have e14 : z 14 = .bool false := hdp 14 (dep_of (by kernel_rfl))
        refine wpOp_step rfl (fun K hK => ?_)
        clear hdp
        go_simp
        exact hK _ _ ⟨undef, by simp [upd, e14], rfl, trivial, hC⟩
      | 17, _ =>
        have e14 : z 14 = .bool false := hdp 14 (dep_of (by kernel_rfl))
        refine wpOp_step rfl (fun K hK => ?_)
        clear hdp
        go_simp
        exact hK _ _ ⟨undef, by simp [upd, e14], rfl, trivial, hC⟩
      | 18, _ =>
        have e14 : z 14 = .bool false := hdp 14 (dep_of (by kernel_rfl))
        refine wpOp_step rfl (fun K hK => ?_)
        clear hdp
        go_simp
        exact hK _ _ ⟨undef, by simp [upd, e14], rfl, trivial, hC⟩
      | 19, _ =>
        have e14 : z 14 = .bool false := hdp 14 (dep_of (by kernel_rfl))
        have e18 : z 18 = undef := hdp 18 (dep_of (by kernel_rfl))
        refine wpOp_step rfl (fun K hK => ?_)
        clear hdp
        go_simp
        exact hK _ _ ⟨.bool false, by simp [upd, e14, e18], rfl, trivial, hC⟩
      | n + 20, hn => exact absurd hn (by omega)
    · intro z w7 kk hkk hC hdp
      have e19 : z 19 = .bool false := hdp 19 (by decide)
      refine wpOp_step rfl (fun K hK => ?_)
      clear hdp
      go_simp
      refine hK _ _ ?_
      clear hK K e19
      have HB := Lib.hid (HX1.out _ hC).2.2.2.2
      clear hC
      go_wp2
      go_ret
      rw [HF.out]; exact ⟨rfl, HB.out⟩
  cases bB
  · have HF : Hid (R = false) := Lib.hid HS.out
    clear HH
    refine wp_region_last (by kernel_rfl) 20 (by kernel_rfl) (by kernel_rfl) (by kernel_rfl)
      (fun z => { tmps := #[Value.agg #[Value.string h.verb, Value.string h.target, Value.string h.host, v, Value.string h.body], Value.pointer (some { block := w.heap.size, off := 0 }), Value.bool false, Value.bool true, Value.pointer (some { block := w.heap.size, off := 0 }), Value.string h.verb, Value.bool true, Value.bool true, Value.pointer (some { block := w.heap.size, off := 1 }), Value.string h.target, Value.bool true, Value.bool true, Value.bool true, Value.pointer (some { block := w.heap.size, off := 2 }), Value.string h.host, Value.bool true, Value.bool true, z 0, z 1, z 2, z 3, z 4, z 5, z 6, z 7, z 8, z 9, z 10, z 11, z 12, z 13, z 14, z 15, z 16, z 17, z 18, z 19], defers := [] })
      (fun _ W => Below w1b.heap.size w1b W)
      (fun i xv _ => xv = ([.bool true, .bool true, .pointer (some ⟨w.heap.size, 3, none⟩), v, .bool true, .bool true, .bool true, .pointer (some ⟨w.heap.size, 4, none⟩), .string h.body, .pointer (some ⟨w.heap.size, 0, none⟩), .string h.verb, .int .i64 (mN : Int), .bool false, .bool false, .bool false, undef, undef, undef, undef, .bool false] : List Value).getD i undef)
      (fun _ _ => True) (fun _ => undef) (Below.refl _ _).drew
      (fun _ _ _ _ _ h _ => h) ?_ ?_
    · intro i hi z w7 kk hkk hC hdp
      match i, hi with
      | 0, _ =>
        refine wpOp_step rfl (fun K hK => ?_)
        clear hdp
        go_simp
        exact hK _ _ ⟨.bool true, rfl, rfl, trivial, hC⟩
      | 1, _ =>
        have e0 : z 0 = .bool true := hdp 0 (dep_of (by kernel_rfl))
        refine wpOp_step rfl (fun K hK => ?_)
        clear hdp
        go_simp
        exact hK _ _ ⟨.bool true, by simp [upd, e0], rfl, trivial, hC⟩
      | 2, _ =>
        have e1 : z 1 = .bool true := hdp 1 (dep_of (by kernel_rfl))
        refine wpOp_step rfl (fun K hK => ?_)
        clear hdp
        go_simp
        exact hK _ _ ⟨.pointer (some ⟨w.heap.size, 3, none⟩), by simp [upd, e1], rfl, trivial, hC⟩
      | 3, _ =>
        obtain ⟨t0, t1, t2, t3, t4, _⟩ := five_facts (HX1.out w7 hC).1
        have e1 : z 1 = .bool true := hdp 1 (dep_of (by kernel_rfl))
        have e2 : z 2 = .pointer (some ⟨w.heap.size, 3, none⟩) := hdp 2 (dep_of (by kernel_rfl))
        refine wpOp_step rfl (fun K hK => ?_)
        clear hdp
        go_simp
        exact hK _ _ ⟨v, by simp [upd, e1, e2], rfl, trivial, hC⟩
      | 4, _ =>
        have e1 : z 1 = .bool true := hdp 1 (dep_of (by kernel_rfl))
        have e3 : z 3 = v := hdp 3 (dep_of (by kernel_rfl))
        have hT := HO.out w7 (HX1.out w7 hC).2.1 (HX1.out w7 hC).2.2.2.1
        refine wpOp_step rfl (fun K hK => ?_)
        clear hdp
        go_simp
        refine hT.mono ?_
        rintro e w8 ⟨rfl, hb8⟩
        exact hK _ _ ⟨.bool true, by simp [upd, e1, e3], rfl, trivial, hC.trans (hb8.mono hC.size)⟩
      | 5, _ =>
        have e1 : z 1 = .bool true := hdp 1 (dep_of (by kernel_rfl))
        have e4 : z 4 = .bool true := hdp 4 (dep_of (by kernel_rfl))
        refine wpOp_step rfl (fun K hK => ?_)
        clear hdp
        go_simp
        exact hK _ _ ⟨.bool true, by simp [upd, e1, e4], rfl, trivial, hC⟩
      | 6, _ =>
        have e5 : z 5 = .bool true := hdp 5 (dep_of (by kernel_rfl))
        refine wpOp_step rfl (fun K hK => ?_)
        clear hdp
        go_simp
        exact hK _ _ ⟨.bool true, by simp [upd, e5], rfl, trivial, hC⟩
      | 7, _ =>
        have e6 : z 6 = .bool true := hdp 6 (dep_of (by kernel_rfl))
        refine wpOp_step rfl (fun K hK => ?_)
        clear hdp
        go_simp
        exact hK _ _ ⟨.pointer (some ⟨w.heap.size, 4, none⟩), by simp [upd, e6], rfl, trivial, hC⟩
      | 8, _ =>
        obtain ⟨t0, t1, t2, t3, t4, _⟩ := five_facts (HX1.out w7 hC).1
        have e6 : z 6 = .bool true := hdp 6 (dep_of (by kernel_rfl))
        have e7 : z 7 = .pointer (some ⟨w.heap.size, 4, none⟩) := hdp 7 (dep_of (by kernel_rfl))
        refine wpOp_step rfl (fun K hK => ?_)
        clear hdp
        go_simp
        exact hK _ _ ⟨.string h.body, by simp [upd, e6, e7], rfl, trivial, hC⟩
      | 9, _ =>
        have e6 : z 6 = .bool true := hdp 6 (dep_of (by kernel_rfl))
        refine wpOp_step rfl (fun K hK => ?_)
        clear hdp
        go_simp
        exact hK _ _ ⟨.pointer (some ⟨w.heap.size, 0, none⟩), by simp [upd, e6], rfl, trivial, hC⟩
      | 10, _ =>
        obtain ⟨t0, t1, t2, t3, t4, _⟩ := five_facts (HX1.out w7 hC).1
        have e6 : z 6 = .bool true := hdp 6 (dep_of (by kernel_rfl))
        have e9 : z 9 = .pointer (some ⟨w.heap.size, 0, none⟩) := hdp 9 (dep_of (by kernel_rfl))
        refine wpOp_step rfl (fun K hK => ?_)
        clear hdp
        go_simp
        exact hK _ _ ⟨.string h.verb, by simp [upd, e6, e9], rfl, trivial, hC⟩
      | 11, _ =>
        have e6 : z 6 = .bool true := hdp 6 (dep_of (by kernel_rfl))
        have e10 : z 10 = .string h.verb := hdp 10 (dep_of (by kernel_rfl))
        have hT := HM.out w7
        refine wpOp_step rfl (fun K hK => ?_)
        clear hdp
        go_simp
        refine hT.mono ?_
        rintro e w8 ⟨rfl, rfl⟩
        exact hK _ _ ⟨.int .i64 (mN : Int), by simp [upd, e6, e10], rfl, trivial, hC⟩
      | 12, _ =>
        have e6 : z 6 = .bool true := hdp 6 (dep_of (by kernel_rfl))
        have e8 : z 8 = .string h.body := hdp 8 (dep_of (by kernel_rfl))
        have e11 : z 11 = .int .i64 (mN : Int) := hdp 11 (dep_of (by kernel_rfl))
        have hT := HB0.out w7
        refine wpOp_step rfl (fun K hK => ?_)
        clear hdp
        go_simp
        refine hT.mono ?_
        rintro e w8 ⟨rfl, rfl⟩
        exact hK _ _ ⟨.bool false, by simp [upd, e6, e8, e11], rfl, trivial, hC⟩
      | 13, _ =>
        have e6 : z 6 = .bool true := hdp 6 (dep_of (by kernel_rfl))
        have e12 : z 12 = .bool false := hdp 12 (dep_of (by kernel_rfl))
        refine wpOp_step rfl (fun K hK => ?_)
        clear hdp
        go_simp
        exact hK _ _ ⟨.bool false, by simp [upd, e6, e12], rfl, trivial, hC⟩
      | 14, _ =>
        have e13 : z 13 = .bool false := hdp 13 (dep_of (by kernel_rfl))
        refine wpOp_step rfl (fun K hK => ?_)
        clear hdp
        go_simp
        exact hK _ _ ⟨.bool false, by simp [upd, e13], rfl, trivial, hC⟩
      | 15, _ =>
        have e14 : z 14 = .bool false := hdp 14 (dep_of (by kernel_rfl))
        refine wpOp_step rfl (fun K hK => ?_)
        clear hdp
        go_simp
        exact hK _ _ ⟨undef, by simp [upd, e14], rfl, trivial, hC⟩
      | 16, _ =>
        have e14 : z 14 = .bool false := hdp 14 (dep_of (by kernel_rfl))
        refine wpOp_step rfl (fun K hK => ?_)
        clear hdp
        go_simp
        exact hK _ _ ⟨undef, by simp [upd, e14], rfl, trivial, hC⟩
      | 17, _ =>
        have e14 : z 14 = .bool false := hdp 14 (dep_of (by kernel_rfl))
        refine wpOp_step rfl (fun K hK => ?_)
        clear hdp
        go_simp
        exact hK _ _ ⟨undef, by simp [upd, e14], rfl, trivial, hC⟩
      | 18, _ =>
        have e14 : z 14 = .bool false := hdp 14 (dep_of (by kernel_rfl))
        refine wpOp_step rfl (fun K hK => ?_)
        clear hdp
        go_simp
        exact hK _ _ ⟨undef, by simp [upd, e14], rfl, trivial, hC⟩
      | 19, _ =>
        have e14 : z 14 = .bool false := hdp 14 (dep_of (by kernel_rfl))
        have e18 : z 18 = undef := hdp 18 (dep_of (by kernel_rfl))
        refine wpOp_step rfl (fun K hK => ?_)
        clear hdp
        go_simp
        exact hK _ _ ⟨.bool false, by simp [upd, e14, e18], rfl, trivial, hC⟩
      | n + 20, hn => exact absurd hn (by omega)
    · intro z w7 kk hkk hC hdp
      have e19 : z 19 = .bool false := hdp 19 (by decide)
      refine wpOp_step rfl (fun K hK => ?_)
      clear hdp
      go_simp
      refine hK _ _ ?_
      clear hK K e19
      have HB := Lib.hid (HX1.out _ hC).2.2.2.2
      clear hC
      go_wp2
      go_ret
      rw [HF.out]; exact ⟨rfl, HB.out⟩
  have h6 := Hh6.out (by first | rfl | trivial)
  have h20 := Hhb.out (by first | rfl | trivial)
  have hR : R = decide (hlen ≤ 300) := by rw [HS.out]; simp
  rw [← HHl.out] at hR
  have HR := Lib.hid hR
  clear hR
  by_cases h3 : HT.size ≤ 300
  · have HF : Hid (R = true) := Lib.hid (by rw [HR.out]; exact decide_eq_true h3)
    have I1 : Hid (HT.size ≤ 300) := Lib.hid h3
    refine wp_region_last (by kernel_rfl) 20 (by kernel_rfl) (by kernel_rfl) (by kernel_rfl)
      (fun z => { tmps := #[Value.agg #[Value.string h.verb, Value.string h.target, Value.string h.host, v, Value.string h.body], Value.pointer (some { block := w.heap.size, off := 0 }), Value.bool false, Value.bool true, Value.pointer (some { block := w.heap.size, off := 0 }), Value.string h.verb, Value.bool true, Value.bool true, Value.pointer (some { block := w.heap.size, off := 1 }), Value.string h.target, Value.bool true, Value.bool true, Value.bool true, Value.pointer (some { block := w.heap.size, off := 2 }), Value.string h.host, Value.bool true, Value.bool true, z 0, z 1, z 2, z 3, z 4, z 5, z 6, z 7, z 8, z 9, z 10, z 11, z 12, z 13, z 14, z 15, z 16, z 17, z 18, z 19], defers := [] })
      (fun _ W => Below w1b.heap.size w1b W)
      (fun i xv _ => xv = ([.bool true, .bool true, .pointer (some ⟨w.heap.size, 3, none⟩), v, .bool true, .bool true, .bool true, .pointer (some ⟨w.heap.size, 4, none⟩), .string h.body, .pointer (some ⟨w.heap.size, 0, none⟩), .string h.verb, .int .i64 (mN : Int), .bool true, .bool true, .bool true, .agg #[.string h.verb, .string h.target, .string h.host, v, .string h.body], .string HT, .int .i64 (HT.size : Int), .bool (decide ((HT.size : Int) ≤ 300)), .bool (decide ((HT.size : Int) ≤ 300))] : List Value).getD i undef)
      (fun _ _ => True) (fun _ => undef) (Below.refl _ _).drew
      (fun _ _ _ _ _ h _ => h) ?_ ?_
    · intro i hi z w7 kk hkk hC hdp
      match i, hi with
      | 0, _ =>
        refine wpOp_step rfl (fun K hK => ?_)
        clear hdp
        go_simp
        exact hK _ _ ⟨.bool true, rfl, rfl, trivial, hC⟩
      | 1, _ =>
        have e0 : z 0 = .bool true := hdp 0 (dep_of (by kernel_rfl))
        refine wpOp_step rfl (fun K hK => ?_)
        clear hdp
        go_simp
        exact hK _ _ ⟨.bool true, by simp [upd, e0], rfl, trivial, hC⟩
      | 2, _ =>
        have e1 : z 1 = .bool true := hdp 1 (dep_of (by kernel_rfl))
        refine wpOp_step rfl (fun K hK => ?_)
        clear hdp
        go_simp
        exact hK _ _ ⟨.pointer (some ⟨w.heap.size, 3, none⟩), by simp [upd, e1], rfl, trivial, hC⟩
      | 3, _ =>
        obtain ⟨t0, t1, t2, t3, t4, _⟩ := five_facts (HX1.out w7 hC).1
        have e1 : z 1 = .bool true := hdp 1 (dep_of (by kernel_rfl))
        have e2 : z 2 = .pointer (some ⟨w.heap.size, 3, none⟩) := hdp 2 (dep_of (by kernel_rfl))
        refine wpOp_step rfl (fun K hK => ?_)
        clear hdp
        go_simp
        exact hK _ _ ⟨v, by simp [upd, e1, e2], rfl, trivial, hC⟩
      | 4, _ =>
        have e1 : z 1 = .bool true := hdp 1 (dep_of (by kernel_rfl))
        have e3 : z 3 = v := hdp 3 (dep_of (by kernel_rfl))
        have hT := HO.out w7 (HX1.out w7 hC).2.1 (HX1.out w7 hC).2.2.2.1
        refine wpOp_step rfl (fun K hK => ?_)
        clear hdp
        go_simp
        refine hT.mono ?_
        rintro e w8 ⟨rfl, hb8⟩
        exact hK _ _ ⟨.bool true, by simp [upd, e1, e3], rfl, trivial, hC.trans (hb8.mono hC.size)⟩
      | 5, _ =>
        have e1 : z 1 = .bool true := hdp 1 (dep_of (by kernel_rfl))
        have e4 : z 4 = .bool true := hdp 4 (dep_of (by kernel_rfl))
        refine wpOp_step rfl (fun K hK => ?_)
        clear hdp
        go_simp
        exact hK _ _ ⟨.bool true, by simp [upd, e1, e4], rfl, trivial, hC⟩
      | 6, _ =>
        have e5 : z 5 = .bool true := hdp 5 (dep_of (by kernel_rfl))
        refine wpOp_step rfl (fun K hK => ?_)
        clear hdp
        go_simp
        exact hK _ _ ⟨.bool true, by simp [upd, e5], rfl, trivial, hC⟩
      | 7, _ =>
        have e6 : z 6 = .bool true := hdp 6 (dep_of (by kernel_rfl))
        refine wpOp_step rfl (fun K hK => ?_)
        clear hdp
        go_simp
        exact hK _ _ ⟨.pointer (some ⟨w.heap.size, 4, none⟩), by simp [upd, e6], rfl, trivial, hC⟩
      | 8, _ =>
        obtain ⟨t0, t1, t2, t3, t4, _⟩ := five_facts (HX1.out w7 hC).1
        have e6 : z 6 = .bool true := hdp 6 (dep_of (by kernel_rfl))
        have e7 : z 7 = .pointer (some ⟨w.heap.size, 4, none⟩) := hdp 7 (dep_of (by kernel_rfl))
        refine wpOp_step rfl (fun K hK => ?_)
        clear hdp
        go_simp
        exact hK _ _ ⟨.string h.body, by simp [upd, e6, e7], rfl, trivial, hC⟩
      | 9, _ =>
        have e6 : z 6 = .bool true := hdp 6 (dep_of (by kernel_rfl))
        refine wpOp_step rfl (fun K hK => ?_)
        clear hdp
        go_simp
        exact hK _ _ ⟨.pointer (some ⟨w.heap.size, 0, none⟩), by simp [upd, e6], rfl, trivial, hC⟩
      | 10, _ =>
        obtain ⟨t0, t1, t2, t3, t4, _⟩ := five_facts (HX1.out w7 hC).1
        have e6 : z 6 = .bool true := hdp 6 (dep_of (by kernel_rfl))
        have e9 : z 9 = .pointer (some ⟨w.heap.size, 0, none⟩) := hdp 9 (dep_of (by kernel_rfl))
        refine wpOp_step rfl (fun K hK => ?_)
        clear hdp
        go_simp
        exact hK _ _ ⟨.string h.verb, by simp [upd, e6, e9], rfl, trivial, hC⟩
      | 11, _ =>
        have e6 : z 6 = .bool true := hdp 6 (dep_of (by kernel_rfl))
        have e10 : z 10 = .string h.verb := hdp 10 (dep_of (by kernel_rfl))
        have hT := HM.out w7
        refine wpOp_step rfl (fun K hK => ?_)
        clear hdp
        go_simp
        refine hT.mono ?_
        rintro e w8 ⟨rfl, rfl⟩
        exact hK _ _ ⟨.int .i64 (mN : Int), by simp [upd, e6, e10], rfl, trivial, hC⟩
      | 12, _ =>
        have e6 : z 6 = .bool true := hdp 6 (dep_of (by kernel_rfl))
        have e8 : z 8 = .string h.body := hdp 8 (dep_of (by kernel_rfl))
        have e11 : z 11 = .int .i64 (mN : Int) := hdp 11 (dep_of (by kernel_rfl))
        have hT := HB0.out w7
        refine wpOp_step rfl (fun K hK => ?_)
        clear hdp
        go_simp
        refine hT.mono ?_
        rintro e w8 ⟨rfl, rfl⟩
        exact hK _ _ ⟨.bool true, by simp [upd, e6, e8, e11], rfl, trivial, hC⟩
      | 13, _ =>
        have e6 : z 6 = .bool true := hdp 6 (dep_of (by kernel_rfl))
        have e12 : z 12 = .bool true := hdp 12 (dep_of (by kernel_rfl))
        refine wpOp_step rfl (fun K hK => ?_)
        clear hdp
        go_simp
        exact hK _ _ ⟨.bool true, by simp [upd, e6, e12], rfl, trivial, hC⟩
      | 14, _ =>
        have e13 : z 13 = .bool true := hdp 13 (dep_of (by kernel_rfl))
        refine wpOp_step rfl (fun K hK => ?_)
        clear hdp
        go_simp
        exact hK _ _ ⟨.bool true, by simp [upd, e13], rfl, trivial, hC⟩
      | 15, _ =>
        obtain ⟨t0, t1, t2, t3, t4, _⟩ := five_facts (HX1.out w7 hC).1
        have e14 : z 14 = .bool true := hdp 14 (dep_of (by kernel_rfl))
        refine wpOp_step rfl (fun K hK => ?_)
        clear hdp
        go_simp
        exact hK _ _ ⟨.agg #[.string h.verb, .string h.target, .string h.host, v, .string h.body], by simp [upd, e14], rfl, trivial, hC⟩
      | 16, _ =>
        have e14 : z 14 = .bool true := hdp 14 (dep_of (by kernel_rfl))
        have e15 : z 15 = .agg #[.string h.verb, .string h.target, .string h.host, v, .string h.body] := hdp 15 (dep_of (by kernel_rfl))
        have hT := HH.out w7 (HX1.out w7 hC).2.2.2.1 h6 (by first | rfl | trivial) h20 (HX1.out w7 hC).2.1 (HX1.out w7 hC).2.2.1
        refine wpOp_step rfl (fun K hK => ?_)
        clear hdp
        go_simp
        refine hT.mono ?_
        rintro e w8 ⟨rfl, hb8⟩
        exact hK _ _ ⟨.string HT, by simp [upd, e14, e15], rfl, trivial, hC.trans (hb8.mono hC.size)⟩
      | 17, _ =>
        have e14 : z 14 = .bool true := hdp 14 (dep_of (by kernel_rfl))
        have e16 : z 16 = .string HT := hdp 16 (dep_of (by kernel_rfl))
        refine wpOp_step rfl (fun K hK => ?_)
        clear hdp
        go_simp
        exact hK _ _ ⟨.int .i64 (HT.size : Int), by simp [upd, e14, e16], rfl, trivial, hC⟩
      | 18, _ =>
        have e14 : z 14 = .bool true := hdp 14 (dep_of (by kernel_rfl))
        have e17 : z 17 = .int .i64 (HT.size : Int) := hdp 17 (dep_of (by kernel_rfl))
        refine wpOp_step rfl (fun K hK => ?_)
        clear hdp
        go_simp
        exact hK _ _ ⟨.bool (decide ((HT.size : Int) ≤ 300)), by simp [upd, e14, e17], rfl, trivial, hC⟩
      | 19, _ =>
        have e14 : z 14 = .bool true := hdp 14 (dep_of (by kernel_rfl))
        have e18 : z 18 = .bool (decide ((HT.size : Int) ≤ 300)) := hdp 18 (dep_of (by kernel_rfl))
        refine wpOp_step rfl (fun K hK => ?_)
        clear hdp
        go_simp
        exact hK _ _ ⟨.bool (decide ((HT.size : Int) ≤ 300)), by simp [upd, e14, e18], rfl, trivial, hC⟩
      | n + 20, hn => exact absurd hn (by omega)
    · intro z w7 kk hkk hC hdp
      have e19 : z 19 = .bool (decide ((HT.size : Int) ≤ 300)) := hdp 19 (by decide)
      refine wpOp_step rfl (fun K hK => ?_)
      clear hdp
      go_simp
      refine hK _ _ ?_
      clear hK K e19
      have HB := Lib.hid (HX1.out _ hC).2.2.2.2
      clear hC
      go_wp2
      go_ret
      refine ⟨?_, HB.out⟩
      rw [HF.out]
      show Ending.returned (.bool (decide ((HT.size : Int) ≤ 300))) = _
      rw [decide_eq_true (by have := I1.out; omega)]
  · have HF : Hid (R = false) := Lib.hid (by rw [HR.out]; exact decide_eq_false h3)
    have I1 : Hid (¬ HT.size ≤ 300) := Lib.hid h3
    refine wp_region_last (by kernel_rfl) 20 (by kernel_rfl) (by kernel_rfl) (by kernel_rfl)
      (fun z => { tmps := #[Value.agg #[Value.string h.verb, Value.string h.target, Value.string h.host, v, Value.string h.body], Value.pointer (some { block := w.heap.size, off := 0 }), Value.bool false, Value.bool true, Value.pointer (some { block := w.heap.size, off := 0 }), Value.string h.verb, Value.bool true, Value.bool true, Value.pointer (some { block := w.heap.size, off := 1 }), Value.string h.target, Value.bool true, Value.bool true, Value.bool true, Value.pointer (some { block := w.heap.size, off := 2 }), Value.string h.host, Value.bool true, Value.bool true, z 0, z 1, z 2, z 3, z 4, z 5, z 6, z 7, z 8, z 9, z 10, z 11, z 12, z 13, z 14, z 15, z 16, z 17, z 18, z 19], defers := [] })
      (fun _ W => Below w1b.heap.size w1b W)
      (fun i xv _ => xv = ([.bool true, .bool true, .pointer (some ⟨w.heap.size, 3, none⟩), v, .bool true, .bool true, .bool true, .pointer (some ⟨w.heap.size, 4, none⟩), .string h.body, .pointer (some ⟨w.heap.size, 0, none⟩), .string h.verb, .int .i64 (mN : Int), .bool true, .bool true, .bool true, .agg #[.string h.verb, .string h.target, .string h.host, v, .string h.body], .string HT, .int .i64 (HT.size : Int), .bool (decide ((HT.size : Int) ≤ 300)), .bool (decide ((HT.size : Int) ≤ 300))] : List Value).getD i undef)
      (fun _ _ => True) (fun _ => undef) (Below.refl _ _).drew
      (fun _ _ _ _ _ h _ => h) ?_ ?_
    · intro i hi z w7 kk hkk hC hdp
      match i, hi with
      | 0, _ =>
        refine wpOp_step rfl (fun K hK => ?_)
        clear hdp
        go_simp
        exact hK _ _ ⟨.bool true, rfl, rfl, trivial, hC⟩
      | 1, _ =>
        have e0 : z 0 = .bool true := hdp 0 (dep_of (by kernel_rfl))
        refine wpOp_step rfl (fun K hK => ?_)
        clear hdp
        go_simp
        exact hK _ _ ⟨.bool true, by simp [upd, e0], rfl, trivial, hC⟩
      | 2, _ =>
        have e1 : z 1 = .bool true := hdp 1 (dep_of (by kernel_rfl))
        refine wpOp_step rfl (fun K hK => ?_)
        clear hdp
        go_simp
        exact hK _ _ ⟨.pointer (some ⟨w.heap.size, 3, none⟩), by simp [upd, e1], rfl, trivial, hC⟩
      | 3, _ =>
        obtain ⟨t0, t1, t2, t3, t4, _⟩ := five_facts (HX1.out w7 hC).1
        have e1 : z 1 = .bool true := hdp 1 (dep_of (by kernel_rfl))
        have e2 : z 2 = .pointer (some ⟨w.heap.size, 3, none⟩) := hdp 2 (dep_of (by kernel_rfl))
        refine wpOp_step rfl (fun K hK => ?_)
        clear hdp
        go_simp
        exact hK _ _ ⟨v, by simp [upd, e1, e2], rfl, trivial, hC⟩
      | 4, _ =>
        have e1 : z 1 = .bool true := hdp 1 (dep_of (by kernel_rfl))
        have e3 : z 3 = v := hdp 3 (dep_of (by kernel_rfl))
        have hT := HO.out w7 (HX1.out w7 hC).2.1 (HX1.out w7 hC).2.2.2.1
        refine wpOp_step rfl (fun K hK => ?_)
        clear hdp
        go_simp
        refine hT.mono ?_
        rintro e w8 ⟨rfl, hb8⟩
        exact hK _ _ ⟨.bool true, by simp [upd, e1, e3], rfl, trivial, hC.trans (hb8.mono hC.size)⟩
      | 5, _ =>
        have e1 : z 1 = .bool true := hdp 1 (dep_of (by kernel_rfl))
        have e4 : z 4 = .bool true := hdp 4 (dep_of (by kernel_rfl))
        refine wpOp_step rfl (fun K hK => ?_)
        clear hdp
        go_simp
        exact hK _ _ ⟨.bool true, by simp [upd, e1, e4], rfl, trivial, hC⟩
      | 6, _ =>
        have e5 : z 5 = .bool true := hdp 5 (dep_of (by kernel_rfl))
        refine wpOp_step rfl (fun K hK => ?_)
        clear hdp
        go_simp
        exact hK _ _ ⟨.bool true, by simp [upd, e5], rfl, trivial, hC⟩
      | 7, _ =>
        have e6 : z 6 = .bool true := hdp 6 (dep_of (by kernel_rfl))
        refine wpOp_step rfl (fun K hK => ?_)
        clear hdp
        go_simp
        exact hK _ _ ⟨.pointer (some ⟨w.heap.size, 4, none⟩), by simp [upd, e6], rfl, trivial, hC⟩
      | 8, _ =>
        obtain ⟨t0, t1, t2, t3, t4, _⟩ := five_facts (HX1.out w7 hC).1
        have e6 : z 6 = .bool true := hdp 6 (dep_of (by kernel_rfl))
        have e7 : z 7 = .pointer (some ⟨w.heap.size, 4, none⟩) := hdp 7 (dep_of (by kernel_rfl))
        refine wpOp_step rfl (fun K hK => ?_)
        clear hdp
        go_simp
        exact hK _ _ ⟨.string h.body, by simp [upd, e6, e7], rfl, trivial, hC⟩
      | 9, _ =>
        have e6 : z 6 = .bool true := hdp 6 (dep_of (by kernel_rfl))
        refine wpOp_step rfl (fun K hK => ?_)
        clear hdp
        go_simp
        exact hK _ _ ⟨.pointer (some ⟨w.heap.size, 0, none⟩), by simp [upd, e6], rfl, trivial, hC⟩
      | 10, _ =>
        obtain ⟨t0, t1, t2, t3, t4, _⟩ := five_facts (HX1.out w7 hC).1
        have e6 : z 6 = .bool true := hdp 6 (dep_of (by kernel_rfl))
        have e9 : z 9 = .pointer (some ⟨w.heap.size, 0, none⟩) := hdp 9 (dep_of (by kernel_rfl))
        refine wpOp_step rfl (fun K hK => ?_)
        clear hdp
        go_simp
        exact hK _ _ ⟨.string h.verb, by simp [upd, e6, e9], rfl, trivial, hC⟩
      | 11, _ =>
        have e6 : z 6 = .bool true := hdp 6 (dep_of (by kernel_rfl))
        have e10 : z 10 = .string h.verb := hdp 10 (dep_of (by kernel_rfl))
        have hT := HM.out w7
        refine wpOp_step rfl (fun K hK => ?_)
        clear hdp
        go_simp
        refine hT.mono ?_
        rintro e w8 ⟨rfl, rfl⟩
        exact hK _ _ ⟨.int .i64 (mN : Int), by simp [upd, e6, e10], rfl, trivial, hC⟩
      | 12, _ =>
        have e6 : z 6 = .bool true := hdp 6 (dep_of (by kernel_rfl))
        have e8 : z 8 = .string h.body := hdp 8 (dep_of (by kernel_rfl))
        have e11 : z 11 = .int .i64 (mN : Int) := hdp 11 (dep_of (by kernel_rfl))
        have hT := HB0.out w7
        refine wpOp_step rfl (fun K hK => ?_)
        clear hdp
        go_simp
        refine hT.mono ?_
        rintro e w8 ⟨rfl, rfl⟩
        exact hK _ _ ⟨.bool true, by simp [upd, e6, e8, e11], rfl, trivial, hC⟩
      | 13, _ =>
        have e6 : z 6 = .bool true := hdp 6 (dep_of (by kernel_rfl))
        have e12 : z 12 = .bool true := hdp 12 (dep_of (by kernel_rfl))
        refine wpOp_step rfl (fun K hK => ?_)
        clear hdp
        go_simp
        exact hK _ _ ⟨.bool true, by simp [upd, e6, e12], rfl, trivial, hC⟩
      | 14, _ =>
        have e13 : z 13 = .bool true := hdp 13 (dep_of (by kernel_rfl))
        refine wpOp_step rfl (fun K hK => ?_)
        clear hdp
        go_simp
        exact hK _ _ ⟨.bool true, by simp [upd, e13], rfl, trivial, hC⟩
      | 15, _ =>
        obtain ⟨t0, t1, t2, t3, t4, _⟩ := five_facts (HX1.out w7 hC).1
        have e14 : z 14 = .bool true := hdp 14 (dep_of (by kernel_rfl))
        refine wpOp_step rfl (fun K hK => ?_)
        clear hdp
        go_simp
        exact hK _ _ ⟨.agg #[.string h.verb, .string h.target, .string h.host, v, .string h.body], by simp [upd, e14], rfl, trivial, hC⟩
      | 16, _ =>
        have e14 : z 14 = .bool true := hdp 14 (dep_of (by kernel_rfl))
        have e15 : z 15 = .agg #[.string h.verb, .string h.target, .string h.host, v, .string h.body] := hdp 15 (dep_of (by kernel_rfl))
        have hT := HH.out w7 (HX1.out w7 hC).2.2.2.1 h6 (by first | rfl | trivial) h20 (HX1.out w7 hC).2.1 (HX1.out w7 hC).2.2.1
        refine wpOp_step rfl (fun K hK => ?_)
        clear hdp
        go_simp
        refine hT.mono ?_
        rintro e w8 ⟨rfl, hb8⟩
        exact hK _ _ ⟨.string HT, by simp [upd, e14, e15], rfl, trivial, hC.trans (hb8.mono hC.size)⟩
      | 17, _ =>
        have e14 : z 14 = .bool true := hdp 14 (dep_of (by kernel_rfl))
        have e16 : z 16 = .string HT := hdp 16 (dep_of (by kernel_rfl))
        refine wpOp_step rfl (fun K hK => ?_)
        clear hdp
        go_simp
        exact hK _ _ ⟨.int .i64 (HT.size : Int), by simp [upd, e14, e16], rfl, trivial, hC⟩
      | 18, _ =>
        have e14 : z 14 = .bool true := hdp 14 (dep_of (by kernel_rfl))
        have e17 : z 17 = .int .i64 (HT.size : Int) := hdp 17 (dep_of (by kernel_rfl))
        refine wpOp_step rfl (fun K hK => ?_)
        clear hdp
        go_simp
        exact hK _ _ ⟨.bool (decide ((HT.size : Int) ≤ 300)), by simp [upd, e14, e17], rfl, trivial, hC⟩
      | 19, _ =>
        have e14 : z 14 = .bool true := hdp 14 (dep_of (by kernel_rfl))
        have e18 : z 18 = .bool (decide ((HT.size : Int) ≤ 300)) := hdp 18 (dep_of (by kernel_rfl))
        refine wpOp_step rfl (fun K hK => ?_)
        clear hdp
        go_simp
        exact hK _ _ ⟨.bool (decide ((HT.size : Int) ≤ 300)), by simp [upd, e14, e18], rfl, trivial, hC⟩
      | n + 20, hn => exact absurd hn (by omega)
    · intro z w7 kk hkk hC hdp
      have e19 : z 19 = .bool (decide ((HT.size : Int) ≤ 300)) := hdp 19 (by decide)
      refine wpOp_step rfl (fun K hK => ?_)
      clear hdp
      go_simp
      refine hK _ _ ?_
      clear hK K e19
      have HB := Lib.hid (HX1.out _ hC).2.2.2.2
      clear hC
      go_wp2
      go_ret
      refine ⟨?_, HB.out⟩
      rw [HF.out]
      show Ending.returned (.bool (decide ((HT.size : Int) ≤ 300))) = _
      rw [decide_eq_false (by have := I1.out; omega)]

set_option maxRecDepth 100000 in
set_option maxHeartbeats 3200000 in
theorem impl_hedwrite (h : Hd) (v : Value) (w : World) (hv : FRow w v h.fs) (hok : FOk h.fs 281474976710656)
    (b1 : h.verb.size ≤ 1048576) (b2 : h.target.size ≤ 1048576) (b3 : h.host.size ≤ 1048576) (b4 : h.body.size ≤ 1048576) (hcls : Cls w) (htab : Tab w) :
    Calls Tryz.prog 29 #[.agg #[.string h.verb, .string h.target, .string h.host, v, .string h.body]] w fun e w' => e = .returned (.string (if hedB h = true then ⟨(hedT h).toArray⟩ else ⟨#[]⟩)) ∧ Below w.heap.size w w' := by
  have hO := fun W hF hc ht => impl_hedok h v W hF hok b1 b2 b3 b4 hc ht
  have hH := fun W hF h6 hh h20 hc ht => impl_head h v W hF h6 hok hh (by omega) (by omega) h20 hc ht
  have hfull : (⟨(headT h).toArray⟩ : ByteArray) ++ h.body = ⟨(hedT h).toArray⟩ := str_inj2 (by simp [hedT])
  have hgood : hedB h = true → h.fs.length ≤ 6 ∧ hostB h.host.data.toList = true ∧ h.body.size ≤ 20 ∧ (ByteArray.mk (headT h).toArray).size ≤ 300 := fun e => by
    have hk := hedB_iff.1 e
    exact ⟨hk.many, hk.host, by rw [size_len]; exact (body_len hk).1, by rw [size_len]; exact hk.len⟩
  generalize (ByteArray.mk (headT h).toArray) = HT at *
  generalize (ByteArray.mk (hedT h).toArray) = FT at *
  generalize hedB h = R at *
  obtain ⟨wA, hwA⟩ : ∃ wA, wA = w.alloc (.cells #[.string h.verb, .string h.target, .string h.host, v, .string h.body] 40) := ⟨_, rfl⟩
  have hsA : wA.heap.size = w.heap.size + 1 := by rw [hwA]; simp
  have hbA : Below w.heap.size w wA := by rw [hwA]; exact (Below.refl _ _).alloc (Nat.le_refl _) _
  have hcell : ∀ W, Below (w.heap.size + 1) wA W → W.heap[w.heap.size]? = some (.cells #[.string h.verb, .string h.target, .string h.host, v, .string h.body] 40 (0, 0)) := fun W hW =>
    (hW.block w.heap.size (by omega)).trans (by rw [hwA]; exact heap_alloc_new w _)
  have HCell := Lib.hid hcell
  have HW : Hid (∀ W, Below (w.heap.size + 1) wA W → Cls W ∧ Tab W ∧ FRow W v h.fs ∧ Below w.heap.size w W) := Lib.hid fun W hW => by
    have hb := hbA.trans (hW.mono (Nat.le_succ _))
    exact ⟨hcls.below hb (Nat.le_refl _), htab.below hb (Nat.le_refl _), hv.below (Nat.le_refl _) hb, hb⟩
  have HwA := Lib.hid hwA
  have HFull := Lib.hid hfull
  have HGood := Lib.hid hgood
  clear hcell hwA hbA hcls htab hv hok hfull hgood
  have hb0 : Below (w.heap.size + 1) wA wA := Below.refl _ _
  obtain ⟨t0, t1, t2, t3, t4, f0, f1, f2, f3, f4⟩ := five_facts (HCell.out _ hb0)
  have HT0 := Lib.hid (And.intro t0 (And.intro t1 (And.intro t2 (And.intro t3 t4))))
  clear t0 t1 t2 t3 t4 f0 f1 f2 f3 f4
  go_enter Tryz.func29, Tryz.ntmps29
  have hOA := hO _ (HW.out _ hb0).2.2.1 (HW.out _ hb0).1 (HW.out _ hb0).2.1
  rw [HwA.out] at hOA
  go_wp2_with fail
  refine hOA.mono ?_
  rintro e w1 ⟨rfl, hb1⟩
  rw [← HwA.out] at hb1
  have hb01 := hb0.trans (hb1.mono (by omega))
  obtain ⟨t0, t1, t2, t3, t4, f0, f1, f2, f3, f4⟩ := five_facts (HCell.out _ hb01)
  clear hb1 hb0 hO hOA
  cases R
  · have HB := Lib.hid (HW.out _ hb01).2.2.2
    clear hH hb01
    go_wp2
    go_ret
    exact ⟨rfl, HB.out⟩
  · have hg := HGood.out (by first | rfl | trivial)
    go_wp2_with fail
    clear t0 t1 t2 t3 t4 f0 f1 f2 f3 f4
    refine wp_region_last (by kernel_rfl) 5 (by kernel_rfl) (by kernel_rfl) (by kernel_rfl)
      (fun u => { tmps := #[.agg #[.string h.verb, .string h.target, .string h.host, v, .string h.body], .pointer (some ⟨w.heap.size, 0, none⟩), .string ⟨#[]⟩, .agg #[.string h.verb, .string h.target, .string h.host, v, .string h.body], .bool true, .bool false, u 0, u 1, u 2, u 3, u 4], defers := [] })
      (fun _ W => Below (w.heap.size + 1) wA W)
      (RAt [REq (.agg #[.string h.verb, .string h.target, .string h.host, v, .string h.body]), REq (.string HT), REq (.pointer (some ⟨w.heap.size, 4, none⟩)), REq (.string h.body), REq (.string FT)])
      (fun w w' => Below w.heap.size w w') (fun _ => undef) hb01.drew
      (fun i v w w' _ hR hle => steady_at (by exact ⟨steady_eq _, steady_eq _, steady_eq _, steady_eq _, steady_eq _, trivial⟩) v w w' hR hle) ?_ ?_
    · intro i hi u w2 k hk hC hd
      obtain ⟨t0, t1, t2, t3, t4, f0, f1, f2, f3, f4⟩ := five_facts (HCell.out _ hC)
      have hsz := hC.size
      match i, hi with
      | 0, _ =>
        refine wpOp_step rfl (fun K hK => ?_)
        clear hd
        go_simp
        exact hK _ _ ⟨_, rfl, rfl, Below.refl _ _, hC⟩
      | 1, _ =>
        have e0 : u 0 = .agg #[.string h.verb, .string h.target, .string h.host, v, .string h.body] := hd 0 (dep_of (by kernel_rfl))
        obtain ⟨k1, k2, k3, k4⟩ := HW.out _ hC
        have hH' := hH w2 k3 hg.1 hg.2.1 hg.2.2.1 k1 k2
        refine wpOp_step rfl (fun K hK => ?_)
        clear hd hH
        go_simp
        refine hH'.mono ?_
        rintro e w3 ⟨rfl, hb3⟩
        exact hK _ _ ⟨_, by simp [upd, e0], rfl, hb3, hC.trans (hb3.mono (by omega))⟩
      | 2, _ =>
        refine wpOp_step rfl (fun K hK => ?_)
        clear hd
        go_simp
        exact hK _ _ ⟨_, rfl, rfl, Below.refl _ _, hC⟩
      | 3, _ =>
        have e2 : u 2 = .pointer (some ⟨w.heap.size, 4, none⟩) := hd 2 (dep_of (by kernel_rfl))
        refine wpOp_step rfl (fun K hK => ?_)
        clear hd
        go_simp
        exact hK _ _ ⟨_, by simp [upd, e2], rfl, Below.refl _ _, hC⟩
      | 4, _ =>
        have e1 : u 1 = .string HT := hd 1 (dep_of (by kernel_rfl))
        have e3 : u 3 = .string h.body := hd 3 (dep_of (by kernel_rfl))
        have hz : ¬ (9223372036854775807 < HT.size + h.body.size) := by omega
        refine wpOp_step rfl (fun K hK => ?_)
        clear hd
        go_simp
        rw [HFull.out]
        exact hK _ _ ⟨_, by simp [upd, e1, e3], rfl, Below.refl _ _, hC⟩
    · intro u w2 k hk hC hd
      have e4 : u 4 = .string FT := hd 4 (by decide)
      have HB := Lib.hid (HW.out _ hC).2.2.2
      refine wpOp_step rfl (fun K hK => ?_)
      clear hd
      go_simp
      refine hK _ _ ?_
      clear hK K hC
      go_wp2
      go_ret
      exact ⟨rfl, HB.out⟩
end Go.Proofs.YtncegikmpapldaaGreatDoor

