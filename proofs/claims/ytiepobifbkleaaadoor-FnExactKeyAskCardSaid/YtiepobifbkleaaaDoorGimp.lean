import Derived.Test.YtiepobifbkleaaaDoorHstP
import Derived.Test.YtiepobifbkleaaaDoorShelf
import Derived.Test.YtiepobifbkleaaaDoorGhed
import Derived.Lib.Strings
import Derived.Test.YtiepobifbkleaaaDoorGcan
import Derived.Test.YtiepobifbkleaaaDoorFok
import Derived.Test.YtiepobifbkleaaaDoorRegR
import Derived.Test.YtiepobifbkleaaaDoorNumR
import Derived.Lib.Join
-- from XHstI
/- Walks: hosts, by the program. -/
namespace Go.Proofs.YtiepobifbkleaaaDoor
open Go.RowKit

/-- Without ':80' at the end. -/
def trimP (l : List UInt8) : List UInt8 := Lib.trimSuffix l [58, 56, 48]
theorem trim_host (l : List UInt8) : hostR l = if hostB (trimP (lowL l)) = true then (⟨(trimP (lowL l)).toArray⟩, true) else (⟨#[]⟩, false) := by
  have key : ∀ t : List UInt8, (hostB (stripL t) = true → trimP t = stripL t) ∧ (hostB (stripL t) = false → hostB (trimP t) = false) := by
    intro t
    unfold trimP Lib.trimSuffix
    rw [← Lib.hasSuffix_of_drop]
    simp only [List.length_cons, List.length_nil, Nat.zero_add, Nat.reduceAdd]
    unfold stripL
    by_cases h3 : 3 < t.length
    · by_cases hd : t.drop (t.length - 3) = [58, 56, 48]
      · rw [if_pos ⟨h3, hd⟩, hd]
        have : (decide (3 ≤ t.length) && ([58, 56, 48] : List UInt8) == [58, 56, 48]) = true := by simp; omega
        rw [if_pos this]
        exact ⟨fun _ => rfl, fun h => h⟩
      · rw [if_neg (fun h => hd h.2)]
        have : (decide (3 ≤ t.length) && (t.drop (t.length - 3)) == [58, 56, 48]) = false := by
          rw [Bool.and_eq_false_iff]; right; simpa using hd
        rw [if_neg (by rw [this]; decide)]
        exact ⟨fun _ => rfl, fun h => h⟩
    · rw [if_neg (fun h => h3 h.1)]
      by_cases hs : (decide (3 ≤ t.length) && (t.drop (t.length - 3)) == [58, 56, 48]) = true
      · rw [if_pos hs]
        rw [Bool.and_eq_true, decide_eq_true_eq, beq_iff_eq] at hs
        have hl : t.length = 3 := by omega
        have ht : t = [58, 56, 48] := by
          have := hs.2
          rw [hl] at this
          simpa using this
        subst ht
        refine ⟨fun h => absurd h (by decide), fun _ => by decide⟩
      · rw [if_neg hs]
        exact ⟨fun _ => rfl, fun h => h⟩
  unfold hostR hostC
  obtain ⟨k1, k2⟩ := key (lowL l)
  cases hb : hostB (stripL (lowL l))
  · rw [k2 hb]; rfl
  · rw [k1 hb, hb]

set_option maxHeartbeats 1600000 in
theorem impl_host (s : ByteArray) (w : World) (hs : s.size ≤ 1048576) (hcls : Cls w) :
    Calls Tryd.prog 94 #[.string s] w fun e w' => e = .returned (.tuple #[.string (hostR s.data.toList).1, .bool (hostR s.data.toList).2]) ∧ Below w.heap.size w w' := by
  have hL := fun W hW => impl_lower s W (by unfold maxLen; omega) hW
  have hlen : (lowL s.data.toList).length = s.size := by rw [low_len, size_len]
  have hR := trim_host s.data.toList
  generalize lowL s.data.toList = t at *
  unfold strV at hL
  have hts : (ByteArray.mk t.toArray).size = s.size := by rw [size_len]; simpa using hlen
  have htl : (ByteArray.mk t.toArray).data.toList = t := by simp
  have hT := fun W => Tryd.strings_TrimSuffix ⟨t.toArray⟩ ⟨#[58, 56, 48]⟩ W (by rw [hts]; omega)
  rw [htl] at hT
  have hple : (trimP t).length ≤ s.size := by rw [← hlen]; exact Lib.trimSuffix_le _ _
  have hT' : ∀ W, Calls Tryd.prog 102 #[.string ⟨t.toArray⟩, .string ⟨#[58, 56, 48]⟩] W fun e w' => e = .returned (.string ⟨(trimP t).toArray⟩) ∧ w' = W := hT
  clear hT htl
  generalize trimP t = p at *
  have hXl : (ByteArray.mk p.toArray).data.toList = p := by simp
  have hXs : (ByteArray.mk p.toArray).size = p.length := by rw [size_len]
  generalize hX : (ByteArray.mk p.toArray) = X at *
  have hPar := fun W => impl_parts X 46 W (by omega)
  rw [hXl] at hPar
  have HXl := Lib.hid hXl; clear hXl hX
  have HR := Lib.hid hR; clear hR
  generalize (ByteArray.mk t.toArray) = T at *
  go_enter Tryd.func94, Tryd.ntmps94
  go_wp2_with fail
  refine (hL _ hcls).mono ?_
  rintro e w1 ⟨rfl, hb1⟩
  go_wp2_with fail
  refine (hT' _).mono ?_
  rintro e w2 ⟨rfl, rfl⟩
  clear hT' hL
  by_cases h20 : X.size ≤ 20
  · go_wp2_with fail
    refine (hPar _).mono ?_
    rintro e w2 ⟨v, rfl, ho, hb2⟩
    have hne := partsL_ne p 46
    have hpos : 0 < (partsL p 46).length := by
      cases hp : partsL p 46 with
      | nil => exact absurd hp hne
      | cons => simp
    obtain ⟨g, cap, rfl⟩ := own_form ho hpos
    have hplen := partsL_len p 46
    have hcell : ∀ j x, (partsL p 46)[j]? = some x → w2.cell? ⟨g, j, none⟩ = some (.string ⟨x.toArray⟩) := fun j x hj => own_cell ho (by rw [List.getElem?_map, hj]; rfl)
    have hgl := (ho.lt g rfl).2
    have hplB : ∀ x ∈ partsL p 46, x.length ≤ p.length := fun x hp => parts_le hp
    have HCell := Lib.hid hcell; have HPl := Lib.hid hplB
    have hbel := hb1.trans (hb2.mono hb1.size)
    have HBel := Lib.hid hbel
    have hhb : hostB p = (decide (p.length ≤ 20) && (partsL p 46).all tokB) := rfl
    have HH := Lib.hid hhb
    have hcls2 := (hcls.below hb1 (Nat.le_refl _)).below hb2 (Nat.le_refl _)
    clear ho hcell hplB hne hb1 hb2 hbel hhb hPar hcls
    generalize hPs : partsL p 46 = Ps at *
    have HPs := Lib.hid hPs
    clear hPs
    go_wp2_with fail
    go_loopw [16] (fun i wr => ∃ k : Nat, k ≤ Ps.length ∧ i = .int .i64 k ∧ (Ps.take k).all tokB = true ∧ wr = w2) (fun i _ => Ps.length - (intOf i).toNat)
    case atStart => exact ⟨0, Nat.zero_le _, rfl, by simp, rfl⟩
    case round =>
      obtain ⟨k, hk, rfl, hall, rfl⟩ := hrel
      by_cases hlt : k < Ps.length
      · have hgk : Ps[k]? = some Ps[k] := List.getElem?_eq_getElem hlt
        have c0 := HCell.out k _ hgk
        have hpk := HPl.out Ps[k] (List.getElem_mem hlt)
        have htk : Ps.take (k + 1) = Ps.take k ++ [Ps[k]] := by rw [List.take_add_one, hgk]; rfl
        have hmem : Ps[k] ∈ Ps := List.getElem_mem hlt
        generalize Ps[k] = q at *
        have hT := fun W hW => impl_tok ⟨q.toArray⟩ W (by unfold maxLen; rw [size_len]; simp only; omega) hW
        have hpl : (ByteArray.mk q.toArray).data.toList = q := by simp
        rw [hpl] at hT
        have HTk := Lib.hid htk
        clear htk hpl hgk
        cases htp : tokB q
        · rw [htp] at hT
          have hf : hostB p = false := by
            rw [HH.out]
            have : Ps.all tokB = false := by
              rw [Bool.eq_false_iff]; intro h
              rw [List.all_eq_true] at h
              rw [h q hmem] at htp; cases htp
            rw [this, Bool.and_false]
          have hr := HR.out
          rw [hf] at hr
          have HF := Lib.hid hr
          clear hf htp hmem hr
          go_wp2_with fail
          refine (hT _ hcls2).mono ?_
          rintro e w3 ⟨rfl, rfl⟩
          go_wp2
          go_ret2
          rw [HF.out]
          exact ⟨rfl, HBel.out⟩
        · rw [htp] at hT
          have hall' : (Ps.take (k + 1)).all tokB = true := by rw [HTk.out, List.all_append, hall]; simp [htp]
          have HA := Lib.hid hall'
          clear hall' htp hmem hall
          go_wp2_with fail
          refine (hT _ hcls2).mono ?_
          rintro e w3 ⟨rfl, rfl⟩
          go_wp2
          go_roundw
          case rel => exact ⟨k + 1, by omega, by go_num, HA.out, trivial⟩
          case measure => simp [intOf]; omega
      · have hkn : k = Ps.length := by omega
        subst hkn
        rw [List.take_of_length_le (Nat.le_refl _)] at hall
        have hf : hostB p = true := by
          rw [HH.out, hall, Bool.and_true, decide_eq_true_eq, ← hXs]; exact h20
        have hr := HR.out
        rw [hf, if_pos rfl] at hr
        have HF := Lib.hid hr
        clear hf hr hall
        go_wp2
        go_ret2
        rw [HF.out]
        exact ⟨rfl, HBel.out⟩
  · have hf : hostB p = false := by unfold hostB; rw [decide_eq_false (by rw [← hXs]; exact h20), Bool.false_and]
    have hr := HR.out
    rw [hf] at hr
    have HF := Lib.hid hr
    have HB := Lib.hid hb1
    clear hf hr hb1
    go_wp2
    go_ret2
    rw [HF.out]
    exact ⟨rfl, HB.out⟩
end Go.Proofs.YtiepobifbkleaaaDoor

-- from XHok
/- Walks: whether a host is in its plainest form, by the program. -/
namespace Go.Proofs.YtiepobifbkleaaaDoor
open Go.RowKit

theorem host_ps (t : ByteArray) : ∃ (T : ByteArray) (ok : Bool), hostR t.data.toList = (T, ok) ∧ ((ok = true ∧ T = t) ↔ hostB t.data.toList = true) := by
  obtain ⟨T, ok, hr⟩ : ∃ T ok, hostR t.data.toList = (T, ok) := ⟨_, _, rfl⟩
  refine ⟨T, ok, hr, ?_⟩
  constructor
  · rintro ⟨rfl, rfl⟩; exact (hostR_yes hr).1
  · intro h
    rw [host_again h] at hr
    obtain ⟨h1, h2⟩ := Prod.mk.inj hr
    exact ⟨h2.symm, by rw [← h1]⟩
theorem strh_same (a : ByteArray) : (a.toList == a.toList) = true := by simp
theorem strh_ne {a b : ByteArray} (h : a ≠ b) : (a.toList == b.toList) = false := by
  rw [Lib.toList_data, Lib.toList_data]
  simp only [beq_eq_false_iff_ne, ne_eq]
  intro e
  exact h (ByteArray.ext (Array.toList_inj.1 e))

set_option maxHeartbeats 800000 in
theorem impl_hok (t : ByteArray) (w : World) (ht : t.size ≤ 1048576) (hcls : Cls w) :
    Calls Tryd.prog 87 #[.string t] w fun e w' => e = .returned (.bool (hostB t.data.toList)) ∧ Below w.heap.size w w' := by
  have hU := fun W hW => impl_host t W (by omega) hW
  obtain ⟨T, okT, hT, hTT⟩ := host_ps t
  rw [hT] at hU
  dsimp only at hU
  have hdef : hostB t.data.toList = (okT && decide (T = t)) := by rw [Bool.eq_iff_iff]; simpa using hTT.symm
  rw [hdef]
  clear hdef hTT hT
  go_enter Tryd.func87, Tryd.ntmps87
  go_wp2_with fail
  refine (hU _ hcls).mono ?_
  rintro e w1 ⟨rfl, hb1⟩
  have HB := Lib.hid hb1
  clear hb1 hU hcls
  cases okT
  · go_wp2
    go_ret
    exact ⟨rfl, HB.out⟩
  · by_cases e1 : T = t
    · subst e1
      have se := strh_same T
      go_wp2
      go_ret
      exact ⟨by simp, HB.out⟩
    · have se := strh_ne e1
      have E := Lib.hid e1
      clear e1
      go_wp2
      go_ret
      exact ⟨by simp [E.out], HB.out⟩
end Go.Proofs.YtiepobifbkleaaaDoor

-- from XHelI
/- Walks: verbs, names of a request's own, bodies, the address, by the program. -/
namespace Go.Proofs.YtiepobifbkleaaaDoor
open Go.RowKit

/-- How long a body may be. -/
def mostN (verb : List UInt8) : Nat := if verb = bPut then 20 else 0
def bodyP (verb body : List UInt8) : Bool := decide (body.length ≤ mostN verb) && printB body
def addrB (t h : List UInt8) : Bool := decide (canonL t = some t) && hostB h
set_option maxHeartbeats 800000 in
theorem impl_target (t : ByteArray) (w : World) (ht : t.size ≤ 1048576) (hcls : Cls w) :
    Calls Tryd.prog 27 #[.string t] w fun e w' => e = .returned (.bool (decide (canonL t.data.toList = some t.data.toList))) ∧ Below w.heap.size w w' := by
  have hU := fun W hW => impl_canon t W (by omega) hW
  obtain ⟨T, okT, hT, hTT⟩ := can_parts t
  rw [hT] at hU
  have hdef : decide (canonL t.data.toList = some t.data.toList) = (okT && decide (T = t)) := by rw [Bool.eq_iff_iff]; simpa using hTT.symm
  rw [hdef]
  clear hdef hTT hT
  go_enter Tryd.func27, Tryd.ntmps27
  go_wp2_with fail
  refine (hU _ hcls).mono ?_
  rintro e w1 ⟨rfl, hb1⟩
  have HB := Lib.hid hb1
  clear hb1 hU hcls
  cases okT
  · go_wp2
    go_ret
    exact ⟨rfl, HB.out⟩
  · by_cases e1 : T = t
    · subst e1
      have se := str_same T
      go_wp2
      go_ret
      exact ⟨by simp, HB.out⟩
    · have se := str_ne e1
      have E := Lib.hid e1
      clear e1
      go_wp2
      go_ret
      exact ⟨by simp [E.out], HB.out⟩
end Go.Proofs.YtiepobifbkleaaaDoor

-- from XHtI
/- Walks: whether other fields are ok, and the text ahead of a body, by the program. -/
namespace Go.Proofs.YtiepobifbkleaaaDoor
open Go.RowKit

/-! ### The text ahead of a body -/
theorem join_two (ls : List (List UInt8)) : Lib.join (ls ++ [[], []]) [10] = joinL ls ++ [10] := by
  have key : ∀ r : List (List UInt8), Lib.joinTail [10] (r ++ [[], []]) = 10 :: (joinL r ++ [10]) := by
    intro r
    induction r with
    | nil => rfl
    | cons y r ih =>
      unfold Lib.joinTail at ih ⊢
      simp only [List.cons_append, List.map_cons, List.flatten_cons] at ih ⊢
      rw [ih, joinL_cons]
      simp
  cases ls with
  | nil => rfl
  | cons x r =>
    rw [List.cons_append, Lib.join_cons, key, joinL_cons]
    simp
end Go.Proofs.YtiepobifbkleaaaDoor

-- from XHtH
/- Walks: the text ahead of a request's body, by the program. -/
namespace Go.Proofs.YtiepobifbkleaaaDoor
open Go.RowKit

/-- A literal of two texts. -/
def RTwo (B : Nat) (x y : ByteArray) : Value → World → Prop := fun v w => ∃ g, v = .slice (some ⟨g, 0, none⟩) 2 2 ∧ B ≤ g ∧ w.heap[g]? = some (.cells #[.string x, .string y] 9 (0, 0))

/-- What stays while new blocks come. -/
def Steady (R : Value → World → Prop) : Prop := ∀ v w w', R v w → Below w.heap.size w w' → R v w'
theorem steady_eq (x : Value) : Steady (REq x) := fun _ _ _ h _ => h
theorem steady_two (B : Nat) (x y : ByteArray) : Steady (RTwo B x y) := fun _ _ _ ⟨g, h1, h2, h3⟩ hb => ⟨g, h1, h2, (hb.block g (Array.getElem?_eq_some_iff.1 h3).1).trans h3⟩
def SteadyAll : List (Value → World → Prop) → Prop
  | [] => True
  | r :: rs => Steady r ∧ SteadyAll rs
theorem steady_at : ∀ {Rs : List (Value → World → Prop)} {i : Nat}, SteadyAll Rs → Steady (RAt Rs i)
  | [], i, _ => fun _ _ _ _ _ => by simp [RAt]
  | r :: rs, 0, h => by simpa [RAt] using h.1
  | r :: rs, i + 1, h => by simpa [RAt] using steady_at (Rs := rs) (i := i) h.2

theorem own_texts {w : World} {B n : Nat} {T : TypeId} {v : Value} {L : List (List UInt8)} (h : w.ownsRow B T 1 v n (L.map strV)) (hpos : 0 < n) :
    n = L.length ∧ ∃ g cap, v = .slice (some ⟨g, 0, none⟩) n cap ∧ n ≤ cap ∧ g < w.heap.size ∧ ∀ (j : Nat) x, (L.map fun l : List UInt8 => (⟨l.toArray⟩ : ByteArray))[j]? = some x → w.cell? ⟨g, 0 + j, none⟩ = some (.string x) := by
  have hn : n = L.length := by have := h.1; simpa using this.symm
  refine ⟨hn, ?_⟩
  rcases h.2 with ⟨rfl, h0⟩ | ⟨g, cap, cur, rfl, hB, hh, hc, hm, _, _⟩
  · omega
  · refine ⟨g, cap, rfl, hc, (Array.getElem?_eq_some_iff.1 hh).1, fun j x hj => ?_⟩
    rw [Nat.zero_add]
    refine own_cell h ?_
    rw [List.getElem?_map] at hj ⊢
    obtain ⟨l, hl, rfl⟩ := Option.map_eq_some_iff.1 hj
    rw [hl]; rfl
theorem map_texts (L : List (List UInt8)) : (L.map fun l : List UInt8 => (⟨l.toArray⟩ : ByteArray)).map (·.data.toList) = L := by
  rw [List.map_map]
  conv => rhs; rw [← List.map_id L]
  exact List.map_congr_left fun l _ => by simp
theorem len_fd (n : Nat) (h : n ≤ 20) : fdT (⟨bLength.toArray⟩, ⟨(Lib.decDigits n).toArray⟩) = ⟨(bLength ++ 58 :: 32 :: Lib.decDigits n).toArray⟩ := by
  have h1 : tokB bLength = true := by decide
  have h2 := (dig_val n h).1
  have hf : fdB (⟨bLength.toArray⟩, ⟨(Lib.decDigits n).toArray⟩) = true := by simp [fdB, h1, h2]
  refine str_inj2 ?_
  rw [fdT_list hf]

end Go.Proofs.YtiepobifbkleaaaDoor

-- from XHtO
/- Walks: whether a request is ok, and a request written, by the program. -/
namespace Go.Proofs.YtiepobifbkleaaaDoor
open Go.RowKit

theorem body_split (v b : List UInt8) : bodyP v b = (bodyB b && (decide (b = []) || v == bPut)) := by
  unfold bodyP bodyB mostN
  by_cases hv : v = bPut
  · subst hv; simp
  · rw [if_neg hv]
    have : (v == bPut) = false := by simpa using hv
    rw [this, Bool.or_false]
    cases b with
    | nil => simp
    | cons x b => simp
def tgtB (t : List UInt8) : Bool := decide (canonL t = some t)
theorem hed_split (h : Hd) : hedB h = (verbB h.verb.data.toList && (tgtB h.target.data.toList && (hostB h.host.data.toList && ((decide (h.fs.length ≤ 6) && fldsB h.fs) && (bodyP h.verb.data.toList h.body.data.toList && decide ((headT h).length ≤ 300)))))) := by
  rw [body_split]
  unfold hedB tgtB fldsB
  generalize verbB h.verb.data.toList = a
  generalize decide (canonL h.target.data.toList = some h.target.data.toList) = b
  generalize hostB h.host.data.toList = c
  generalize decide (h.fs.length ≤ 6) = d
  generalize bodyB h.body.data.toList = e
  generalize (decide (h.body.data.toList = []) || h.verb.data.toList == bPut) = f
  generalize (h.fs.all fun f => fdB f && !ownB f.1.data.toList) = g
  generalize decide ((headT h).length ≤ 300) = i
  cases a <;> cases b <;> cases c <;> cases d <;> cases e <;> cases f <;> cases g <;> cases i <;> rfl

end Go.Proofs.YtiepobifbkleaaaDoor

